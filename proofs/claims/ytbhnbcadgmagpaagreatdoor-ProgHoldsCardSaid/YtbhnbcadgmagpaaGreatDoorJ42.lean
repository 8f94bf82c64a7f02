import Derived.Test.YtbhnbcadgmagpaaGreatDoorBii
import Derived.Test.YtbhnbcadgmagpaaGreatDoorJ1
import Derived.Test.YtbhnbcadgmagpaaGreatDoorJ38
import Derived.Test.YtbhnbcadgmagpaaGreatDoorJ41
import Derived.Test.YtbhnbcadgmagpaaGreatDoorJ17
set_option linter.unusedVariables false
set_option linter.unusedSimpArgs false
set_option maxHeartbeats 2000000
set_option maxRecDepth 100000
namespace Go.Proofs.YtbhnbcadgmagpaaGreatDoor
open Go.ChangeShapes Go.WideShapes Go.ChangeAt Go.RowKit Go.aN Go.Lib
namespace Pg
open bg (Ms af bq ay aP ag L4 aH aq ai bD)
open aE (R)
open ak (Ke)
open Me (ptr)
open Tb (UW TM Fw)
section
variable {b:Bs}{W:World}{S:Sh}{r:Rn}
theorem YR.keys{Om Ot K:Nat->Prop}{pv lv kv:Value}(H:YR b Om Ot K pv lv kv S r W){v:Value}{ks:List Ke}(hk:Kv W K v ks):YR b Om Ot K pv lv v S { r with ks:=ks } (W.setCell ⟨b.g,24,none⟩ v):=H.set (r':={ r with ks:=ks }) 24 v rfl H.n_ hk
def YK(b:Bs)(S:Sh)(r:Rn)(v:Value)(ks:List Ke)(W:World):Prop:=∃Om Ot Kf pv lv kv,YR b Om Ot Kf pv lv kv S r W/\Kv W Kf v ks
theorem YK.y{v:Value}{ks:List Ke}(H:YK b S r v ks W):Y b S r W:=by
 obtain⟨Om,Ot,K,pv,lv,kv,h1,h2⟩:=H;exact⟨Om,Ot,K,pv,lv,kv,h1⟩
theorem YK.store{v:Value}{ks:List Ke}(H:YK b S r v ks W):Y b S { r with ks:=ks } (W.setCell ⟨b.g,24,none⟩ v):=by
 obtain⟨Om,Ot,K,pv,lv,kv,h1,h2⟩:=H;exact⟨Om,Ot,K,pv,lv,v,h1.keys h2⟩
theorem Qm{K:Nat->Prop}{p:Option Addr}{c B0:Nat}{ks:List Ke}(hc:ks.length<=c/\c<=9223372036854775807)(hk:Tb.Um W B0 p ks)(ho:∀k∈ks,k.Ok)(hK:∀g,p=some ⟨g,0,none⟩->0<ks.length->K g):Kv W K (.slice p ks.length c) ks:=by
 refine⟨⟨p,c,rfl,hc,λhn=>?_⟩,ho⟩;obtain⟨g,rfl,h1,h2,h3⟩:=hk hn;refine⟨g,0,rfl,hK g rfl hn,h2,λj u hu=>?_⟩;have hj:j<(Tb.rD ks).length:=(List.getElem?_eq_some_iff.1 (show(Tb.rD ks)[j]? = some u from hu)).1;rw[Tb.Pb]at hj;obtain⟨k,hk⟩:∃k,ks[j / 5]? = some k:=⟨_,List.getElem?_eq_getElem zo⟩;have e:j=j / 5*5+j % 5:=zo;have h4:=Tb.FE ks (j / 5) (j % 5) k hk zo;rw[← e]at h4;have h5:(Tb.k5 k)[j % 5]? = some u:=h4.symm.trans hu;obtain⟨a0,a1,a2,a3,a4⟩:=h3 (j / 5) k hk;rw[Nat.zero_add,e]
 rcases(by omega:j % 5=0\/j % 5=1\/j % 5=2\/j % 5=3\/j % 5=4)with e2 | e2 | e2 | e2 | e2
 ·rw[e2]at h5 ⊢;exact a0.trans h5
 ·rw[e2]at h5 ⊢;exact a1.trans h5
 ·rw[e2]at h5 ⊢;exact a2.trans h5
 ·rw[e2]at h5 ⊢;exact a3.trans h5
 ·rw[e2]at h5 ⊢;exact a4.trans h5
theorem R6(H:Y b S r W)(hr:Rm 0 S)(hn:b.C.n<=4096):Calls Tryz.prog 118 #[ptr b.tb,.int .i64 r.t,.int .i64 (r.st:Int)] W λe w'=>∃p c ve,e = .returned (.tuple #[.slice p (iR b.C S r).length c,.int .i64 ve])/\YK b (kL b.C S r) r (.slice p (iR b.C S r).length c) (iR b.C S r) w':=by
 by_cases hs:r.st<b.C.n
 ·cases hh:Tb.eR S.ms r.t (r.st:Int)with
  | false =>
   rw[show kL b.C S r=S by unfold kL;rw[if_neg (by rw[hh];simp)],show iR b.C S r=[] by unfold iR;rw[if_neg (by rw[hh];simp)]]
   obtain⟨Om,Ot,K,pv,lv,kv,h⟩:=H
   refine(Tb.Pn h.tm r.t r.st hs hh).mono ?_
   rintro e w' ⟨rfl,rfl⟩
   exact⟨none,0,13,rfl,Om,Ot,K,pv,lv,kv,h,Kv.nil _ _⟩
  | true =>
   rw[show kL b.C S r = { S with ms:=ai S.ms r.t 5 (r.st:Int) } by unfold kL;rw[if_pos ⟨hs,hh⟩],show iR b.C S r=(Tb.part b.C.n r.st S.fs).map (·.k) by unfold iR;rw[if_pos ⟨hs,hh⟩]]
   obtain⟨Om,Ot,K,pv,lv,kv,h⟩:=H
   have hb:=h.Gs.size
   have hfs:=h.dr.2.1
   refine(Tb.MI h.tm hr.l hr.f r.t r.st hs hh).mono ?_
   rintro e w' ⟨p,c,jG,B0,rfl,hc,hk,hlt,hB,hT⟩
   have h2:=h.EM hT
   have hok:∀k∈(Tb.part b.C.n r.st S.fs).map (·.k),k.Ok:=λk hk=>by
    obtain⟨f,hf,rfl⟩:=List.mem_map.1 hk;exact(hfs.ok f (Tb.jq.1 hf).1).k
   have hlen:((Tb.part b.C.n r.st S.fs).map (·.k)).length=(Tb.part b.C.n r.st S.fs).length:=List.length_map ..
   rw[← hlen]at hc
   refine⟨p,c,0,by rw[hlen],?_⟩
   by_cases h0:0<((Tb.part b.C.n r.st S.fs).map (·.k)).length
   ·obtain⟨g,rfl,g1,g2,-⟩:=hk h0;refine⟨jG,Ot,λj=>K j\/j=g,pv,lv,kv,h2.more g zo (λj hj=>?_) g2,Qm hc hk hok λg' e _=>.inr (by injection e with e;injection e with e;exact e.symm)⟩
    have:j<B0:=by
     rcases hj with hj | rfl
     ·rcases hj with hj | hj
      ·exact hlt j hj
      ·exact Nat.lt_of_lt_of_le (h.lt (.inr hj)) hB
     ·exact Nat.lt_of_lt_of_le h.run.lt hB
    omega
   ·exact⟨jG,Ot,K,pv,lv,kv,h2,Qm hc hk hok λg _ h1=>absurd h1 h0⟩
 ·rw[show kL b.C S r=S by unfold kL;rw[if_neg (λe=>hs e.1)],show iR b.C S r=[] by unfold iR;rw[if_neg (λe=>hs e.1)]];obtain⟨Om,Ot,K,pv,lv,kv,h⟩:=H;refine(Tb.MH h.tm r.t (r.st:Int) (.inr zo)).mono ?_;rintro e w' ⟨rfl,rfl⟩;exact⟨none,0,1,rfl,Om,Ot,K,pv,lv,kv,h,Kv.nil _ _⟩
theorem MJ(H:Y b S r W)(hr:Rm 9 S)(hF:Fit b.C S r)(he:Env b.w0):Calls Tryz.prog 78 #[ptr b.g] W (Yd b U ((sK b.C S r).1) ((sK b.C S r).2)):=by
 have HR:=hid hr;have HF:=hid hF;have HE:=hid he;have H0:=hid H;have HCN:=hid hF.cn;clear H hr hF he;go_in;go_wp2_with fail;refine wp_region_held_drew (S:=λw'=>w'.cell? ⟨b.g,0,none⟩=some (ptr b.B)/\w'.cell? ⟨b.B,19,none⟩=some (ptr b.tb)/\w'.cell? ⟨b.g,1,none⟩=some (.int .i64 r.t)/\w'.cell? ⟨b.g,23,none⟩=some (.int .i64 (r.st:Int))) zk (⟨H0.out.drew.cell 0 (ptr b.B) zf,H0.out.drew.shared 19 (ptr b.tb) zg,H0.out.drew.cell 1 (.int .i64 r.t) zf,H0.out.drew.cell 23 (.int .i64 (r.st:Int)) zf⟩) (λhH=>?_);refine zr 0 3 hH ?_;refine zr 1 4 hH ?_;refine zr 2 5 hH ?_;refine zr 3 6 hH ?_;refine zr 4 7 hH ?_;refine zr 5 8 hH ?_;refine zr 6 9 hH ?_;refine zr 7 10 hH ?_;refine zr 8 11 hH ?_;refine zr 9 12 hH ?_;refine zr 10 13 hH ?_;refine zr 11 14 hH ?_;refine zr 12 15 hH ?_;refine zr 13 16 hH ?_;refine zr 14 17 hH ?_;refine zr 15 18 hH ?_
 try simp only[zq]
 refine zrd 16 (λK hK=>?_);go_simp;refine(R6 H0.out.drew (HR.out.mono zo) HCN.out).mono ?_;rintro e w1 ⟨p,c,ve,rfl,hy⟩;refine hK.out _ _ (⟨hy.y.cell 0 (ptr b.B) zf,hy.y.shared 19 (ptr b.tb) zg,hy.y.cell 1 (.int .i64 r.t) zf,hy.y.cell 23 (.int .i64 (r.st:Int)) zf⟩) (λhH=>?_);clear hK K;have H1:=hid hy;clear hy H0
 try simp only[zq]
 refine zr 17 2 hH ?_;refine zr 18 20 hH ?_;refine zr 19 21 hH ?_;refine zr 20 22 hH ?_;refine zr 21 23 hH ?_
 try simp only[zq]
 refine zrd 22 (λK hK=>?_);have f0:=H1.out.y.frozen 24
 obtain⟨u0,c0⟩:∃u,w1.cell? ⟨b.g,24,none⟩=some u:=by
  obtain⟨Om,Ot,Kf,pv,lv,kv,h,_⟩:=H1.out;exact⟨_,h.run.cell 24 _ rfl⟩
 go_simp;clear c0 f0;have H2:=hid H1.out.store;refine hK.out _ _ (⟨H2.out.cell 0 (ptr b.B) zf,H2.out.shared 19 (ptr b.tb) zg,H2.out.cell 1 (.int .i64 r.t) zf,H2.out.cell 23 (.int .i64 (r.st:Int)) zf⟩) (λhH=>?_);clear hK K;clear H1
 try simp only[zq]
 refine wpAnyH_done zk ?_ _;clear hH;go_wp2_with fail;refine(nh H2.out).mono ?_;rintro e w3 ⟨rfl,hy⟩;have H3:=hid hy;clear hy H2;go_wp2_with fail;go_end0;exact⟨rfl,H3.out⟩
end
end Pg
end Go.Proofs.YtbhnbcadgmagpaaGreatDoor
namespace Go.Proofs.YtbhnbcadgmagpaaGreatDoor
open Go.ChangeShapes Go.WideShapes Go.ChangeAt Go.RowKit Go.aN Go.Lib
namespace Pg
open bg (Ms af bq ay aP ag L4 aH aq ai bD)
open aE (R)
open ak (Ke)
open Me (ptr)
open Tb (UW TM Fw)
section
variable {b:Bs}{W:World}{S:Sh}{r:Rn}
theorem Po(H:Y b S r W)(hr:Rm 9 S)(hF:Fit b.C S r)(he:Env b.w0)(hd:r.at_ ≠ .done):Calls Tryz.prog (KC r.at_) #[ptr b.g] W (Yd b U (aY b.C S r).1 (aY b.C S r).2):=by
 cases ha:r.at_ with
 | find =>
  rw[show aY b.C S r=jS b.C S r by unfold aY;rw[ha]]
  exact KN H hr hF he
 | release =>
  rw[show aY b.C S r=kH S r by unfold aY;rw[ha]]
  exact Bn H hr hF he
 | load =>
  rw[show aY b.C S r=jU S r by unfold aY;rw[ha]]
  exact KS H hr hF he
 | judge =>
  rw[show aY b.C S r=gG S r by unfold aY;rw[ha]]
  exact Gx H hr hF he
 | advance =>
  rw[show aY b.C S r=kI b.C S r by unfold aY;rw[ha]]
  exact Bo H hr hF he (hF.mr (by rw[ha];simp))
 | sure =>
  rw[show aY b.C S r=xC S r by unfold aY;rw[ha]]
  exact KT H hr hF he (hF.mr (by rw[ha];simp))
 | look =>
  rw[show aY b.C S r=jT b.C S r by unfold aY;rw[ha]]
  exact KP H hr hF he
 | again =>
  rw[show aY b.C S r=rA S r by unfold aY;rw[ha]]
  exact Gu H hr hF he
 | over =>
  rw[show aY b.C S r=jV S r by unfold aY;rw[ha]]
  exact KR H hr hF he
 | kill =>
  rw[show aY b.C S r=jw b.C S r by unfold aY;rw[ha]]
  exact Mu H hr hF he (hF.q (by rw[ha];simp))
 | less =>
  rw[show aY b.C S r=xD S r by unfold aY;rw[ha]]
  exact KQ H hr hF he
 | leave =>
  rw[show aY b.C S r=fb S r by unfold aY;rw[ha]]
  exact IE H hr hF he (hF.q (by rw[ha];simp))
 | absent =>
  rw[show aY b.C S r=fq b.C S r by unfold aY;rw[ha]]
  exact Ee H hr hF he
 | enter =>
  rw[show aY b.C S r=h_ b.C S r by unfold aY;rw[ha]]
  exact IF H hr hF he
 | unlock =>
  rw[show aY b.C S r=nO S r by unfold aY;rw[ha]]
  exact Dr H hr hF he
 | malformed =>
  rw[show aY b.C S r=ia S r by unfold aY;rw[ha]]
  exact vW H hr hF he
 | count =>
  rw[show aY b.C S r=dP S r by unfold aY;rw[ha]]
  exact Gw H hr hF he
 | add =>
  rw[show aY b.C S r=rq S r by unfold aY;rw[ha]]
  exact N6 H hr hF he
 | readClock =>
  rw[show aY b.C S r=fT S r by unfold aY;rw[ha]]
  exact ot H hr hF he
 | tick =>
  rw[show aY b.C S r=jW S r by unfold aY;rw[ha]]
  exact Bp H hr hF he
 | claim =>
  rw[show aY b.C S r=rB S r by unfold aY;rw[ha]]
  exact Gv H hr hF he
 | prepare =>
  rw[show aY b.C S r=dQ b.C S r by unfold aY;rw[ha]]
  exact Cn H hr hF he
 | publish =>
  rw[show aY b.C S r=dR S r by unfold aY;rw[ha]]
  exact Co H hr hF he
 | disclaim =>
  rw[show aY b.C S r=jd b.C S r by unfold aY;rw[ha]]
  exact yU H hr hF he
 | stat =>
  rw[show aY b.C S r=sJ S r by unfold aY;rw[ha]]
  exact KU H hr hF he
 | take =>
  rw[show aY b.C S r=sK b.C S r by unfold aY;rw[ha]]
  exact MJ H hr hF he
 | visit =>
  rw[show aY b.C S r=gH b.C S r by unfold aY;rw[ha]]
  exact Gz H hr hF he
 | inspect =>
  rw[show aY b.C S r=dx S r by unfold aY;rw[ha]]
  exact Cm H hr hF he
 | finish =>
  rw[show aY b.C S r=fu b.C S r by unfold aY;rw[ha]]
  exact Ed H hr hF he
 | endOp =>
  rw[show aY b.C S r=jJ S r by unfold aY;rw[ha]]
  exact gD H (hr.mono zo)
 | done=>exact absurd ha hd
theorem Up{w0:World}{C:Cf}(he:Env w0)(a:At)(hd:a ≠ .done):Hr a C w0:=fun {b W S r} hC hw ha H hr hF=>Po H hr hF (hw▸he) (ha▸hd)
end
end Pg
end Go.Proofs.YtbhnbcadgmagpaaGreatDoor
