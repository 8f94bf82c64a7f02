import Derived.Test.YtbhnbcadgmagpaaGreatDoorBih
import Derived.Test.YtbhnbcadgmagpaaGreatDoorJ1
import Derived.Test.YtbhnbcadgmagpaaGreatDoorJ17
import Derived.Test.YtbhnbcadgmagpaaGreatDoorJ16
import Derived.Test.YtbhnbcadgmagpaaGreatDoorJ27
import Derived.Test.YtbhnbcadgmagpaaGreatDoorJ31
import Derived.Test.YtbhnbcadgmagpaaGreatDoorJ4
import Derived.Test.YtbhnbcadgmagpaaGreatDoorJ12
import Derived.Test.YtbhnbcadgmagpaaGreatDoorJ32
import Derived.Test.YtbhnbcadgmagpaaGreatDoorJ11
set_option linter.unusedVariables false
set_option linter.unusedSimpArgs false
set_option maxHeartbeats 4000000
set_option maxRecDepth 100000
namespace Go.Proofs.YtbhnbcadgmagpaaGreatDoor
open Go.ChangeShapes Go.WideShapes Go.ChangeAt Go.RowKit Go.aN Go.Lib
namespace Pg
open bg (Ms af bq ay aP ag L4 aH aq ai bD)
open aE (R)
open iw (K)
open ov (four bS)
open oc (gw GG GH yW Bt)
open ak (Ke)
open Me (ptr)
open Tb (UW TM Fw)
structure s_(w:World):Prop where
 pg:Env w
 tc:Tc.Env w
 ru:Ru.Env w
theorem s_.below{w w':World}(h:s_ w)(hb:Below w.heap.size w w'):s_ w':=⟨h.pg.below hb,h.tc.below hb zl,h.ru.below hb⟩
theorem LK(p:K)(hp:p.Ok)(W:World):Calls Tryz.prog 65 #[.agg #[.int .u8 (p.pr:Int),.int .u32 (p.sr:Int),.int .u32 (p.ds:Int),.int .u16 (p.sp:Int),.int .u16 (p.dp:Int),.int .u8 (p.fl:Int),.int .u8 (p.kd:Int)]] W λe w'=>e = .returned (.tuple #[.agg #[.int .u32 ((cv p).a:Int),.int .u32 ((cv p).b:Int),.int .u16 ((cv p).p:Int),.int .u16 ((cv p).q:Int),.int .u8 ((cv p).r:Int)],.bool (zT p)])/\Below W.heap.size W w':=by
 have hr:cv p=if zT p then⟨p.ds,p.sr,p.dp,p.sp,p.pr⟩else⟨p.sr,p.ds,p.sp,p.dp,p.pr⟩:=rfl
 cases hd:zT p with
 | true =>
  rw[hd,if_pos rfl]at hr
  rw[hr]
  exact Ky.yw p.pr p.sr p.ds p.sp p.dp p.fl p.kd hp.sp hp.dp p.ds p.sr p.dp p.sp true hd (.inl ⟨rfl,rfl,rfl,rfl,rfl⟩) W
 | false =>
  rw[hd,if_neg zs]at hr
  rw[hr]
  exact Ky.yw p.pr p.sr p.ds p.sp p.dp p.fl p.kd hp.sp hp.dp p.sr p.ds p.sp p.dp false hd (.inr ⟨rfl,rfl,rfl,rfl,rfl⟩) W
section
variable {b:Bs}{W:World}{S:Sh}{r:Rn}
theorem Y.cells(H:Y b S r W){w':World}{r':Rn}(ho:ar (· = b.g) W w')(h:∀lv kv,aF W b.g (n9 b.B r lv kv) 97->aF w' b.g (n9 b.B r' lv kv) 97)(hl:r'.li=r.li)(hk:r'.ks=r.ks):Y b S r' w':=by
 obtain⟨Om,Ot,K,pv,lv,kv,H⟩:=H;have hK:∀j,K j->¬(j=b.g):=λj hj=>(H.dk j hj).2.1
 exact⟨Om,Ot,K,pv,lv,kv,H.step ho (λj e=>.inr e) (H.mem.far ho λj hj e=>H.dg (.inl (e▸hj))) (H.dr.far ho λj hj e=>H.dg (.inr (.inl (e▸hj)))) (H.blk.only ho λe=>H.dg (.inr (.inr (.inl e.symm)))) (H.map.only ho (λe=>H.dg (.inr (.inr (.inr (.inl e.symm))))) hK)
  (bf H.pts λg e=>ho.block g (H.pts.lt g e).2 λh=>H.dg (.inr (.inr (.inr (.inr (h▸e)))))) (h lv kv H.run) (hl▸H.n_.only ho hK) (hk▸H.oq.only ho hK)
  (λj h=>.inl h) H.tC λj h=>⟨(H.dp j h).1,.inl h⟩⟩
theorem Y.abY(H:Y b S r W)(he:s_ b.w0):s_ W:=by
 obtain⟨Om,Ot,K,pv,lv,kv,H⟩:=H;exact he.below H.az
theorem LL(W:World)(g:Nat):ar (· = g) W W:=ar.refl _ W
theorem ar.st{W w':World}{g:Nat}(h:ar (· = g) W w')(i:Nat)(v:Value):ar (· = g) W (w'.setCell ⟨g,i,none⟩ v):=h.setCell (p:=⟨g,i,none⟩) (.inl rfl) v
theorem Y.list(H:Y b S r W){w':World}(hb:Below W.heap.size W w'){A:Option Addr}{c:Nat}{rs:List R}(hr:gK w' w'.heap.size (.slice A rs.length c) rs)(hk:∀g,(Value.slice A rs.length c).ownBlock=some g->W.heap.size<=g)(ho:∀x∈rs,x.Ok):Y b S { r with li:=rs } (w'.setCell ⟨b.g,11,none⟩ (.slice A rs.length c)):=by
 obtain⟨Om,Ot,K,pv,lv,kv,H⟩:=H
 rcases Nat.eq_zero_or_pos rs.length with h0 | h0
 ·exact⟨Om,Ot,K,pv,_,kv,(H.next hb).set 11 _ rfl ⟨hr,λh=>absurd h (by show ¬0<rs.length;omega),ho⟩ (H.next hb).oq⟩
 ·obtain⟨A',c',e,_,_,h4⟩:=id hr;obtain⟨g,off,rfl,hlt,_⟩:=h4 h0;injection e with e;subst e;have hg:W.heap.size<=g:=hk g rfl;have H2:=(H.next hb).more g (Nat.le_trans H.Gs.size hg) (λj hj=>.inl (Nat.lt_of_lt_of_le (hj.elim H.lt λe=>e▸H.run.lt) hg)) hlt;exact⟨Om,Ot,_,pv,_,kv,H2.set 11 _ rfl ⟨hr,λ_ g' e'=>.inr (Option.some.inj e').symm,ho⟩ H2.oq⟩
theorem Y.TB(H:Y b S r W):∃v,W.cell? ⟨b.g,11,none⟩=some v:=by
 obtain⟨Om,Ot,K,pv,lv,kv,H⟩:=H;exact⟨lv,H.run.cell 11 _ rfl⟩
theorem oU(H:Y b S r W)(x:Int):Calls Tryz.prog 42 #[ptr b.g,.int .i64 x] W (Yd b U S (qx r x)):=by
 have H1:=hid (H.set (r':={ r with e:=x }) 7 (.int .i64 x) zf rfl rfl);have q0:=H.frozen 7;have q1:=H.cell 7 (.int .i64 r.e) zf;clear H;go_in;go_wp2_with fail;refine(aB H1.out .endOp _ rfl).mono ?_;rintro e w1 ⟨rfl,hy⟩;have H2:=hid hy;clear hy q0 q1;go_wp2_with fail;go_end0;exact⟨rfl,H2.out⟩
theorem Oy(n:Int)(W:World):Calls Tryz.prog 50 #[.int .i64 n] W λe w'=>e = .returned (.bool (decide (1<=n/\n<=5)))/\Below W.heap.size W w':=by
 by_cases h1:1<=n
 ·by_cases h2:n<=5
  ·rw[decide_eq_true (And.intro h1 h2)];have d1:decide (n>=1)=true:=decide_eq_true h1;have d2:decide (n<=5)=true:=decide_eq_true h2;go_in;go_wp2_with fail;go_ret;exact⟨rfl,Below.refl _ _⟩
  ·rw[decide_eq_false (λh=>h2 h.2)];have d1:decide (n>=1)=true:=decide_eq_true h1;have d2:decide (n<=5)=false:=decide_eq_false h2;go_in;go_wp2_with fail;go_ret;exact⟨rfl,Below.refl _ _⟩
 ·rw[decide_eq_false (λh=>h1 h.1)];have d1:decide (n>=1)=false:=decide_eq_false h1;go_in;go_wp2_with fail;go_ret;exact⟨rfl,Below.refl _ _⟩
theorem wk(H:Y b S r W)(n:Int):Calls Tryz.prog 41 #[ptr b.g,.int .i64 n] W (Yd b U S (xS r n)):=by
 have HV:=hid (Oy n W);have H0:=hid H;unfold xS;by_cases h:1<=n/\n<=5
 ·rw[if_pos h];rw[decide_eq_true h]at HV;clear h H;go_in;go_wp2_with fail;refine HV.out.mono ?_;rintro e w1 ⟨rfl,hb⟩;have H1:=hid (H0.out.next hb);clear hb H0 HV;have H2:=hid (H1.out.set (r':={ r with z:=n }) 10 (.int .i64 n) zf rfl rfl);have q0:=H1.out.frozen 10;have q1:=H1.out.cell 10 (.int .i64 r.z) zf;go_wp2_with fail;refine(aB H2.out .stat _ rfl).mono ?_;rintro e w2 ⟨rfl,hy⟩;have H3:=hid hy;clear hy q0 q1;go_wp2_with fail;go_end0;exact⟨rfl,H3.out⟩
 ·rw[if_neg h];rw[decide_eq_false h]at HV;clear h H;go_in;go_wp2_with fail;refine HV.out.mono ?_;rintro e w1 ⟨rfl,hb⟩;have H1:=hid (H0.out.next hb);clear hb H0 HV;go_wp2_with fail;refine(oU H1.out 1).mono ?_;rintro e w2 ⟨rfl,hy⟩;have H3:=hid hy;clear hy;go_wp2_with fail;go_end0;exact⟨rfl,H3.out⟩
theorem mZ(H:Y b S r W)(hq:r.q=0)(fl:Bool):Calls Tryz.prog 40 #[ptr b.g] (W.setCell ⟨b.g,20,none⟩ (.bool fl)) (Yd b U S (vp r fl)):=by
 have ho:=ar.st (ar.st (ar.st (LL W b.g) 20 (.bool fl)) 21 (pu 76)) 22 (pu 77)
 have H1:=hid (H.cells (r':={ r with q:=if fl then 4 else 6 }) ho (λlv kv h=>by
  have h1:=h.set' 20 (.bool fl) rfl
  have h2:=h1.set' 21 (pu 76) rfl
  refine h2.set' 22 (pu 77) ?_
  cases fl <;> rfl) rfl rfl)
 obtain⟨Om,Ot,K,pv,lv,kv,HR⟩:=H;have h1:=HR.run.set' 20 (.bool fl) rfl;have h2:=h1.set' 21 (pu 76) rfl;have UN:=h1.cell 21 (j6 r.q) rfl;have UO:=h1.cell 22 (kM r.q) rfl;have f21:=h1.frozen 21;have f22:=h1.frozen 22;rw[hq]at UN UO;rw[show j6 0 = .nilFunc from rfl]at UN;rw[show kM 0 = .nilFunc from rfl]at UO;have HS:Hid (((((W.setCell ⟨b.g,20,none⟩ (.bool fl)).setCell ⟨b.g,21,none⟩ (.func (.func 76) #[] #[])).setCell ⟨b.g,22,none⟩ (.func (.func 77) #[] #[])).cell? ⟨b.g,23,none⟩)=some (.int .i64 (r.st:Int))):=(h2.set' 22 (pu 77) rfl).cell 23 _ rfl;clear HR h1 h2 ho;generalize W.setCell ⟨b.g,20,none⟩ (.bool fl)=W1 at *;have Yt:=HS.out;go_in;go_wp2_with fail;refine(fA H1.out (r.st:Int) .take _ rfl).mono ?_;rintro e w1 ⟨rfl,hy⟩;have H2:=hid hy;clear hy UN UO f21 f22 Yt;go_wp2_with fail;go_end0;exact⟨rfl,H2.out⟩
theorem wm(H:Y b S r W)(he:s_ b.w0)(s:ByteArray)(hs:s.size<=maxLen):Calls Tryz.prog 39 #[ptr b.g,.string s] W (Yd b U S (Hh b.C r s.data.toList)):=by
 have Rb:Hid (Calls Tryz.prog 73 #[.string s] W (Ru.LI s.data.toList W)):=Ru.B8 s W hs (H.abY he).ru;have H0:=hid H;have xE:=hid (aE.CV s.data.toList).2.2;generalize s.data.toList=l at *;unfold Hh;clear hs he H;by_cases h:(aE.aL l).2.2=0
 ·rw[if_pos h];unfold Ru.LI at Rb;rw[h]at Rb;clear h;generalize (aE.aL l).1=rs at *;generalize (aE.aL l).2.1=ln at *;go_in;go_wp2_with fail;refine Rb.out.mono ?_;rintro e w1 ⟨v,rfl,hr,hk,hb⟩;obtain⟨A,c,rfl,-,-⟩:=hr.len;have H1:=hid (H0.out.next hb);have HL:=hid (H0.out.list hb hr hk xE.out);clear hb hr hk H0 Rb;obtain⟨lv,q1⟩:=H1.out.TB;have q0:=H1.out.frozen 11;have q2:=HL.out.cell 0 (ptr b.B) zf;go_wp2_with fail;clear q0 q1;refine(mI HL.out).mono ?_;rintro e w3 ⟨rfl,hy⟩;have H3:=hid hy;clear hy q2 HL;go_wp2_with fail;refine(fA H3.out (b.C.n:Int) .claim _ rfl).mono ?_;rintro e w4 ⟨rfl,hy⟩;have H4:=hid hy;clear hy;go_wp2_with fail;go_end0;exact⟨rfl,H4.out⟩
 ·rw[if_neg h]
  have hd:(((aE.aL l).2.2:Int)!=0)=true:=by rw[bne_iff_ne];omega
  unfold Ru.LI at Rb;clear h;generalize (aE.aL l).1=rs at *;generalize (aE.aL l).2.1=ln at *;generalize (aE.aL l).2.2=er at *;go_in;go_wp2_with fail;refine Rb.out.mono ?_;rintro e w1 ⟨v,rfl,hr,hk,hb⟩;obtain⟨A,c,rfl,-,-⟩:=hr.len;have H1:=hid (H0.out.next hb);clear hb hr hk H0 Rb;go_wp2_with fail;refine(oU H1.out (er:Int)).mono ?_;rintro e w2 ⟨rfl,hy⟩;have H3:=hid hy;clear hy;go_wp2_with fail;go_end0;exact⟨rfl,H3.out⟩
theorem td(H:Y b S r W)(he:s_ b.w0)(hq:r.q=0)(Oz:cB.bN (b.C.n:Int)=true)(A:Option Addr)(n c:Nat)(bs:List UInt8)(B0:Nat)(hb:bI W B0 A n bs)(hB:B0<=W.heap.size)(hc:n<=c)(hm:c<=9223372036854775807):Calls Tryz.prog 36 #[ptr b.g,.slice A n c] W (Yd b U S (xR b.C r bs)):=by
 have Hg:=hid (Wi.b8 A n c bs B0 W hb hB hc hm (H.abY he).tc);have H0:=hid H;have UQ:=hid (DT bs);clear hb hB hc hm he H;unfold xR;by_cases h:gw bs=0
 ·rw[if_pos h];have HQ:=hid hq;rw[Wi.E8 h]at Hg;have Hg:Hid (Calls Tryz.prog 63 #[.slice A n c] W λe w'=>e = .returned (.tuple #[.agg #[.int .u8 ((Fi bs).pr:Int),.int .u32 ((Fi bs).sr:Int),.int .u32 ((Fi bs).ds:Int),.int .u16 ((Fi bs).sp:Int),.int .u16 ((Fi bs).dp:Int),.int .u8 ((Fi bs).fl:Int),.int .u8 ((Fi bs).kd:Int)],.int .i64 0])/\Below W.heap.size W w'):=Hg;generalize Fi bs=P at *;have Rc:=hid Oz;clear h hq Oz;go_in;go_wp2_with fail;refine Hg.out.mono ?_;rintro e w1 ⟨rfl,hb⟩;have H1:=hid (H0.out.next (hb.trans ((ae w1 (.cells #[.int .u8 (P.pr:Int),.int .u32 (P.sr:Int),.int .u32 (P.ds:Int),.int .u16 (P.sp:Int),.int .u16 (P.dp:Int),.int .u8 (P.fl:Int),.int .u8 (P.kd:Int)] 95)).mono hb.size)));have UM:=hid (aF.box w1 #[.int .u8 (P.pr:Int),.int .u32 (P.sr:Int),.int .u32 (P.ds:Int),.int .u16 (P.sp:Int),.int .u16 (P.dp:Int),.int .u8 (P.fl:Int),.int .u8 (P.kd:Int)] 95)
  have PY:Hid (b.g≠w1.heap.size):=λe=>by have:=(H0.out.next hb).lt;omega
  clear hb H0 Hg;have V_:=H1.out.frozen 12;have V':=H1.out.cell 12 (.int .u8 (r.p.pr:Int)) zf;have Wb:=H1.out.frozen 13;have Wc:=H1.out.cell 13 (.int .u32 (r.p.sr:Int)) zf;have Wf:=H1.out.frozen 14;have Wh:=H1.out.cell 14 (.int .u32 (r.p.ds:Int)) zf;have Wj:=H1.out.frozen 15;have Wk:=H1.out.cell 15 (.int .u16 (r.p.sp:Int)) zf;have Wl:=H1.out.frozen 16;have Wm:=H1.out.cell 16 (.int .u16 (r.p.dp:Int)) zf;have Wn:=H1.out.frozen 17;have Wo:=H1.out.cell 17 (.int .u8 (r.p.fl:Int)) zf;have Wp:=H1.out.frozen 18;have Wq:=H1.out.cell 18 (.int .u8 (r.p.kd:Int)) zf;go_wp2_with fail;have H2:=hid (((((((H1.out.set (r':={ r with p:=⟨P.pr,r.p.sr,r.p.ds,r.p.sp,r.p.dp,r.p.fl,r.p.kd⟩ }) 12 (.int .u8 (P.pr:Int)) zf rfl rfl).set (r':={ r with p:=⟨P.pr,P.sr,r.p.ds,r.p.sp,r.p.dp,r.p.fl,r.p.kd⟩ }) 13 (.int .u32 (P.sr:Int)) zf rfl rfl).set (r':={ r with p:=⟨P.pr,P.sr,P.ds,r.p.sp,r.p.dp,r.p.fl,r.p.kd⟩ }) 14 (.int .u32 (P.ds:Int)) zf rfl rfl).set (r':={ r with p:=⟨P.pr,P.sr,P.ds,P.sp,r.p.dp,r.p.fl,r.p.kd⟩ }) 15 (.int .u16 (P.sp:Int)) zf rfl rfl).set (r':={ r with p:=⟨P.pr,P.sr,P.ds,P.sp,P.dp,r.p.fl,r.p.kd⟩ }) 16 (.int .u16 (P.dp:Int)) zf rfl rfl).set (r':={ r with p:=⟨P.pr,P.sr,P.ds,P.sp,P.dp,P.fl,r.p.kd⟩ }) 17 (.int .u8 (P.fl:Int)) zf rfl rfl).set (r':={ r with p:=⟨P.pr,P.sr,P.ds,P.sp,P.dp,P.fl,P.kd⟩ }) 18 (.int .u8 (P.kd:Int)) zf rfl rfl);clear V_ V' Wb Wc Wf Wh Wj Wk Wl Wm Wn Wo Wp Wq;clear UM PY H1;generalize ((((((((w1.alloc (.cells #[.int .u8 (P.pr:Int),.int .u32 (P.sr:Int),.int .u32 (P.ds:Int),.int .u16 (P.sp:Int),.int .u16 (P.dp:Int),.int .u8 (P.fl:Int),.int .u8 (P.kd:Int)] 95)).setCell ⟨b.g,12,none⟩ (.int .u8 (P.pr:Int))).setCell ⟨b.g,13,none⟩ (.int .u32 (P.sr:Int))).setCell ⟨b.g,14,none⟩ (.int .u32 (P.ds:Int))).setCell ⟨b.g,15,none⟩ (.int .u16 (P.sp:Int))).setCell ⟨b.g,16,none⟩ (.int .u16 (P.dp:Int))).setCell ⟨b.g,17,none⟩ (.int .u8 (P.fl:Int))).setCell ⟨b.g,18,none⟩ (.int .u8 (P.kd:Int)))=w2 at *;refine(LK P UQ.out _).mono ?_;rintro e w3 ⟨rfl,hb⟩;have H3:=hid (H2.out.next hb);clear hb H2;have ab3:=H3.out.frozen 25;have Wt:=H3.out.cell 25 (.int .u32 (({ r with p:=P }:Rn).k.a:Int)) zf;have Wu:=H3.out.frozen 26;have Wv:=H3.out.cell 26 (.int .u32 (({ r with p:=P }:Rn).k.b:Int)) zf;have Ww:=H3.out.frozen 27;have Wx:=H3.out.cell 27 (.int .u16 (({ r with p:=P }:Rn).k.p:Int)) zf;have Wy:=H3.out.frozen 28;have Wz:=H3.out.cell 28 (.int .u16 (({ r with p:=P }:Rn).k.q:Int)) zf;have WA:=H3.out.frozen 29;have WB:=H3.out.cell 29 (.int .u8 (({ r with p:=P }:Rn).k.r:Int)) zf;have WC:=H3.out.frozen 19;have WD:=H3.out.cell 19 (.bool ({ r with p:=P }:Rn).dn) zf;go_wp2_with fail;have H4:=hid ((((((H3.out.set (r':={ r with p:=P,k:=⟨(cv P).a,r.k.b,r.k.p,r.k.q,r.k.r⟩ }) 25 (.int .u32 ((cv P).a:Int)) zf rfl rfl).set (r':={ r with p:=P,k:=⟨(cv P).a,(cv P).b,r.k.p,r.k.q,r.k.r⟩ }) 26 (.int .u32 ((cv P).b:Int)) zf rfl rfl).set (r':={ r with p:=P,k:=⟨(cv P).a,(cv P).b,(cv P).p,r.k.q,r.k.r⟩ }) 27 (.int .u16 ((cv P).p:Int)) zf rfl rfl).set (r':={ r with p:=P,k:=⟨(cv P).a,(cv P).b,(cv P).p,(cv P).q,r.k.r⟩ }) 28 (.int .u16 ((cv P).q:Int)) zf rfl rfl).set (r':={ r with p:=P,k:=⟨(cv P).a,(cv P).b,(cv P).p,(cv P).q,(cv P).r⟩ }) 29 (.int .u8 ((cv P).r:Int)) zf rfl rfl).set (r':={ r with p:=P,k:=cv P,dn:=zT P }) 19 (.bool (zT P)) zf rfl rfl);clear ab3 Wt Wu Wv Ww Wx Wy Wz WA WB WC WD;clear H3;generalize ((((((w3.setCell ⟨b.g,25,none⟩ (.int .u32 ((cv P).a:Int))).setCell ⟨b.g,26,none⟩ (.int .u32 ((cv P).b:Int))).setCell ⟨b.g,27,none⟩ (.int .u16 ((cv P).p:Int))).setCell ⟨b.g,28,none⟩ (.int .u16 ((cv P).q:Int))).setCell ⟨b.g,29,none⟩ (.int .u8 ((cv P).r:Int))).setCell ⟨b.g,19,none⟩ (.bool (zT P)))=w4 at *;obtain⟨r2,hr2⟩:∃x,x=({ r with p:=P,k:=cv P,dn:=zT P }:Rn):=⟨_,rfl⟩;rw[← hr2]at H4
  have Q_:Hid (r2.q=0):=by show _=_;rw[hr2];exact HQ.out
  have iu:Hid (r2.k=cv P):=by show _=_;rw[hr2]
  have Q4:=hid hr2
  have hok:r2.k.Ok:=by rw[iu.out];exact tG UQ.out
  have Kw:Hid (∀W,Calls Tryz.prog 66 #[.agg #[.int .u32 (r2.k.a:Int),.int .u32 (r2.k.b:Int),.int .u16 (r2.k.p:Int),.int .u16 (r2.k.q:Int),.int .u8 (r2.k.r:Int)],.int .i64 (b.C.n:Int)] W λe w'=>e = .returned (.int .i64 ((Tb.gZ b.C.n r2.k:Nat):Int))/\Below W.heap.size W w'):=λW =>
   Ky.t_ r2.k.a r2.k.b r2.k.p r2.k.q r2.k.r (b.C.n:Int) hok.a hok.b hok.p hok.q hok.r _ rfl _ (by rw[Tb.Ku Rc.out]) W
  clear hr2 hok UQ HQ Rc;obtain⟨st,hst⟩:∃x,Tb.gZ b.C.n r2.k=x:=⟨_,rfl⟩;rw[hst]at Kw;have ZY:=hid hst;clear hst;refine wp_region_held_drew (S:=λw'=>w'.cell? ⟨b.g,25,none⟩=some (.int .u32 (r2.k.a:Int))/\w'.cell? ⟨b.g,26,none⟩=some (.int .u32 (r2.k.b:Int))/\w'.cell? ⟨b.g,27,none⟩=some (.int .u16 (r2.k.p:Int))/\w'.cell? ⟨b.g,28,none⟩=some (.int .u16 (r2.k.q:Int))/\w'.cell? ⟨b.g,29,none⟩=some (.int .u8 (r2.k.r:Int))/\w'.cell? ⟨b.g,0,none⟩=some (ptr b.B)/\w'.cell? ⟨b.B,0,none⟩=some (.int .i64 (b.C.n:Int))) zk (⟨H4.out.drew.cell 25 (.int .u32 (r2.k.a:Int)) zf,H4.out.drew.cell 26 (.int .u32 (r2.k.b:Int)) zf,H4.out.drew.cell 27 (.int .u16 (r2.k.p:Int)) zf,H4.out.drew.cell 28 (.int .u16 (r2.k.q:Int)) zf,H4.out.drew.cell 29 (.int .u8 (r2.k.r:Int)) zf,H4.out.drew.cell 0 (ptr b.B) zf,H4.out.drew.shared 0 (.int .i64 (b.C.n:Int)) zg⟩) (λhH=>?_);refine zr 0 35 hH ?_;refine zr 1 36 hH ?_;refine zr 2 37 hH ?_;refine zr 3 38 hH ?_;refine zr 4 39 hH ?_;refine zr 5 40 hH ?_;refine zr 6 41 hH ?_;refine zr 7 42 hH ?_;refine zr 8 43 hH ?_;refine zr 9 44 hH ?_;refine zr 10 45 hH ?_;refine zr 11 46 hH ?_;refine zr 12 47 hH ?_
  try simp only[zq]
  refine zrd 13 (λK hK=>?_);go_simp;refine(Kw.out _).mono ?_;rintro e w5 ⟨rfl,hy⟩;refine hK.out _ _ (⟨(H4.out.drew.next hy).cell 25 (.int .u32 (r2.k.a:Int)) zf,(H4.out.drew.next hy).cell 26 (.int .u32 (r2.k.b:Int)) zf,(H4.out.drew.next hy).cell 27 (.int .u16 (r2.k.p:Int)) zf,(H4.out.drew.next hy).cell 28 (.int .u16 (r2.k.q:Int)) zf,(H4.out.drew.next hy).cell 29 (.int .u8 (r2.k.r:Int)) zf,(H4.out.drew.next hy).cell 0 (ptr b.B) zf,(H4.out.drew.next hy).shared 0 (.int .i64 (b.C.n:Int)) zg⟩) (λhH=>?_);clear hK K;have H5:=hid (H4.out.drew.next hy);clear hy H4
  try simp only[zq]
  refine zr 14 49 hH ?_;refine zr 15 50 hH ?_
  try simp only[zq]
  refine zrd 16 (λK hK=>?_);have f0:=H5.out.frozen 23;have c0:=H5.out.cell 23 (.int .i64 (r2.st:Int)) zf;have H6:=hid (H5.out.set (r':={ r2 with st:=st }) 23 (.int .i64 (st:Int)) zf rfl rfl);go_simp;clear c0 f0;refine hK.out _ _ (⟨H6.out.cell 25 (.int .u32 (r2.k.a:Int)) zf,H6.out.cell 26 (.int .u32 (r2.k.b:Int)) zf,H6.out.cell 27 (.int .u16 (r2.k.p:Int)) zf,H6.out.cell 28 (.int .u16 (r2.k.q:Int)) zf,H6.out.cell 29 (.int .u8 (r2.k.r:Int)) zf,H6.out.cell 0 (ptr b.B) zf,H6.out.shared 0 (.int .i64 (b.C.n:Int)) zg⟩) (λhH=>?_);clear hK K;generalize w5.setCell ⟨b.g,23,none⟩ (.int .i64 (st:Int))=w6 at *;clear H5
  try simp only[zq]
  refine wpAnyH_done zk ?_ _;clear hH;have ho:=ar.st (ar.st (LL w6 b.g) 21 (pu 67)) 22 (pu 68)
  have H7:=hid (H6.out.cells (r':={ r2 with st:=st,q:=1 }) ho (λlv kv h=>by
   have h1:=h.set' 21 (pu 67) rfl
   refine h1.set' 22 (pu 68) ?_
   have e:∀c,(c==0)=true->∀x y:Bool,True:=λ_ _ _ _=>trivial
   have hq:=Q_.out
   unfold n9
   dsimp only
   rw[hq]
   rfl) rfl rfl)
  have UN:=H6.out.cell 21 .nilFunc (λ_ _=>by show some (j6 r2.q)=_;rw[Q_.out];rfl);have UO:=H6.out.cell 22 .nilFunc (λ_ _=>by show some (kM r2.q)=_;rw[Q_.out];rfl);have f21:=H6.out.frozen 21;have f22:=H6.out.frozen 22;have Yt:((w6.setCell ⟨b.g,21,none⟩ (.func (.func 67) #[] #[])).setCell ⟨b.g,22,none⟩ (.func (.func 68) #[] #[])).cell? ⟨b.g,23,none⟩=some (.int .i64 (st:Int)):=H7.out.cell 23 (.int .i64 (st:Int)) zf;clear ho H6;go_wp2_with fail;refine(fA H7.out (st:Int) .find _ rfl).mono ?_;rintro e w9 ⟨rfl,hy⟩;have H9:=hid hy;clear hy;go_wp2_with fail;go_end0;have h1:=Q4.out;have h2:=ZY.out;have h3:=iu.out;rw[h3]at h2;subst h1;subst h2;exact⟨rfl,H9.out⟩
 ·rw[if_neg h]
  have hd:((gw bs:Int)!=0)=true:=by rw[bne_iff_ne];omega
  rw[Wi.Ln h]at Hg;generalize gw bs=er at *;clear h hq Oz UQ;go_in;go_wp2_with fail;refine Hg.out.mono ?_;rintro e w1 ⟨rfl,hb⟩;have H1:=hid (H0.out.next (hb.trans ((ae w1 (.cells (Wi.jH 0 0 0 0 0 0 0) 95)).mono hb.size)));have H2:=hid (H1.out.set (r':={ r with e:=(er:Int) }) 7 (.int .i64 (er:Int)) zf rfl rfl);have q0:=H1.out.frozen 7;have q1:=H1.out.cell 7 (.int .i64 r.e) zf;clear hb H0 Hg;go_wp2_with fail;refine(aB H2.out .malformed _ rfl).mono ?_;rintro e w2 ⟨rfl,hy⟩;have H3:=hid hy;clear hy q0 q1;go_wp2_with fail;go_end0;exact⟨rfl,H3.out⟩
end
end Pg
end Go.Proofs.YtbhnbcadgmagpaaGreatDoor
namespace Go.Proofs.YtbhnbcadgmagpaaGreatDoor
open Go.ChangeShapes Go.WideShapes Go.ChangeAt Go.RowKit Go.aN Go.Lib
namespace Pg
open bg (Ms af bq ay aP ag L4 aH aq ai bD)
open aE (R)
open iw (K)
open ak (Ke)
open Me (ptr)
open Tb (UW TM Fw)
abbrev I7(kd n:Int)(A:Option Addr)(l c:Nat)(s:ByteArray):Array Value:=#[.int .i64 kd,.int .i64 n,.slice A l c,.string s]
section
variable {b:Bs}{W Wr w':World}{Om Ot K:Nat->Prop}{pv lv kv:Value}{S S':Sh}{r r':Rn}{g:Nat}
theorem SR.PZ(H:SR b Om Ot K pv S W)(h:RB b Om Ot K pv g lv kv r W)(hy:Y (b.at_ g W (Own Om Ot b.B b.rm pv) K) S' r' w') :
  ∃jG tD K' lY,SR b jG tD K' lY S' w'/\RA b jG tD K' lY g r' w'/\(∀g2 r2,g2≠g->RA b Om Ot K pv g2 r2 W->RA b jG tD K' lY g2 r2 w')/\ar (λj=>Own Om Ot b.B b.rm pv j\/j=g) W w'/\(∀j,Own jG tD b.B b.rm lY j->Own Om Ot b.B b.rm pv j\/W.heap.size<=j)/\(∀j,K' j->K j\/W.heap.size<=j):=by
 obtain⟨jG,tD,K',lY,PG,PI,Y⟩:=hy
 have hK:∀j,K j->¬(Own Om Ot b.B b.rm pv j\/j=g):=λj hj e=>e.elim (H.dk j hj).1 λe=>h.nk (e▸hj)
 refine⟨jG,tD,K',lY,
  {mem:=Y.mem,dr:=Y.dr,blk:=Y.blk,map:=Y.map,pts:=Y.pts,az:=Y.az,nm:=Y.nm,nt:=Y.nt,nb:=Y.nb,nr:=Y.nr,tC:=Y.tC,dm:=Y.dm,dt:=Y.dt,br:=Y.br,dp:=Y.dp
   dk:=λj hj=>⟨(Y.dk j hj).1,(Y.dk j hj).2.2⟩ },
  ⟨PG,PI,Y.run,Y.n_,Y.oq,Y.ng,Y.dg,λe=>(Y.dk g e).2.1 rfl⟩,λg2 r2 hne h2=>?_,Y.Gs,Y.og,Y.kn⟩
 obtain⟨VF,VG,h2⟩:=h2
 have hlt:=h2.run.lt
 exact⟨VF,VG,h2.run.only Y.Gs λe=>e.elim h2.dg hne,(h2.n_.only Y.Gs hK).mono Y.kg,(h2.oq.only Y.Gs hK).mono Y.kg,h2.ng,
  λe=>(Y.og g2 e).elim h2.dg λe=>(by have:W.heap.size<=g2:=e;omega),λe=>(Y.kn g2 e).elim h2.nk λe=>(by have:W.heap.size<=g2:=e;omega)⟩
theorem SR.fresh(H:SR b Om Ot K pv S W)(t op:Int):RB b Om Ot K pv W.heap.size (.slice none 0 0) (.slice none 0 0) (rz t op) (W.alloc (.cells (n9 b.B (rz t op) (.slice none 0 0) (.slice none 0 0)) 97)) :=
 ⟨aF.box _ _ _,Lv.nil _ _,Kv.nil _ _,H.az.size,λe=>by have:=H.lt e;omega,λe=>by have:=(H.dk _ e).2;omega⟩
def zB(b:Bs)(Om Ot K:Nat->Prop)(pv:Value)(S:Sh)(W:World)(r:Rn)(e:Ending)(w':World):Prop:=∃g jG tD K' lY,e = .returned (ptr g)/\W.heap.size<=g/\SR b jG tD K' lY S w'/\RA b jG tD K' lY g r w' ∧
 (∀g2 r2,RA b Om Ot K pv g2 r2 W->RA b jG tD K' lY g2 r2 w')/\ar (Own Om Ot b.B b.rm pv) W w'/\(∀j,Own jG tD b.B b.rm lY j->Own Om Ot b.B b.rm pv j\/W.heap.size<=j)/\(∀j,K' j->K j\/W.heap.size<=j)
theorem jD(H:SR b Om Ot K pv S W)(iI:Below W.heap.size W Wr)(hg:W.heap.size<=g)(h:RB b Om Ot K pv g lv kv r Wr)(hy:Y (b.at_ g Wr (Own Om Ot b.B b.rm pv) K) S r' w'):zB b Om Ot K pv S W r' (.returned (ptr g)) w':=by
 obtain⟨jG,tD,K',lY,h1,h2,h3,h4,h5,h6⟩:=(H.next iI).PZ h hy;have hs:=iI.size;refine⟨g,jG,tD,K',lY,rfl,hg,h1,h2,λg2 r2 h=>?_,?_,λj hj=>(h5 j hj).imp id λh=>Nat.le_trans hs h,λj hj=>(h6 j hj).imp id λh=>Nat.le_trans hs h⟩
 ·have hl:g2<W.heap.size:=by obtain⟨_,_,h⟩:=h;exact h.run.lt
  exact h3 g2 r2 zo (h.next iI)
 ·exact(ar.aS iI).trans h4 λj hj=>hj.elim .inl λe=>.inr (e▸hg)
theorem Hl(H:SR b Om Ot K pv S W)(t op:Int)(ht:0<=t)(n:Int)(A:Option Addr)(l c:Nat)(s:ByteArray)(he:s_ b.w0)(Oz:cB.bN (b.C.n:Int)=true)(bs:List UInt8)(hb:bI W W.heap.size A l bs)(hc:l<=c)(hm:c<=9223372036854775807):Calls Tryz.prog 11 #[ptr b.B,.int .i64 t,.int .i64 op,.agg (I7 1 n A l c s)] W (zB b Om Ot K pv S W (xR b.C (rz t op) bs)):=by
 have HE:=hid he;have Rc:=hid Oz;have UR:=hid hb;have HC:Hid (l<=c/\c<=9223372036854775807):=⟨hc,hm⟩;clear he Oz hb hc hm;have HS:=hid H;have aK:=ae W (.cells #[.int .i64 1,.int .i64 n,.slice A l c,.string s] 39);have Ho:=(H.next aK).blk.cell 18 (ptr b.mb) rfl;have dt:decide (t<0)=false:=zt;have hrb:=(H.next aK).fresh t op;have aZ:=ae (W.alloc (.cells #[.int .i64 1,.int .i64 n,.slice A l c,.string s] 39)) (.cells (n9 b.B (rz t op) (.slice none 0 0) (.slice none 0 0)) 97);have jp:Below W.heap.size W ((W.alloc (.cells #[.int .i64 1,.int .i64 n,.slice A l c,.string s] 39)).alloc (.cells (n9 b.B (rz t op) (.slice none 0 0) (.slice none 0 0)) 97)):=aK.trans (aZ.mono aK.size);have xT:=(aF.box W #[.int .i64 1,.int .i64 n,.slice A l c,.string s] 39).alloc (.cells (n9 b.B (rz t op) (.slice none 0 0) (.slice none 0 0)) 97);rw[World.size_alloc]at hrb;clear aZ;have kT:=hid hrb;have kU:=hid jp;have kV:=hid xT;clear hrb jp xT;go_in;go_upto_region 4 with fail;obtain⟨W2,jX⟩:∃V,(W.alloc (.cells #[.int .i64 1,.int .i64 n,.slice A l c,.string s] 39)).alloc (.cells #[ptr b.B,.int .i64 t,.int .i64 op,.nilFunc,.int .i64 (-1),.bool false,.bool false,.int .i64 0,.int .i64 0,.int .i64 0,.int .i64 0,.slice none 0 0,.int .u8 0,.int .u32 0,.int .u32 0,.int .u16 0,.int .u16 0,.int .u8 0,.int .u8 0,.bool false,.bool false,.nilFunc,.nilFunc,.int .i64 0,.slice none 0 0,.int .u32 0,.int .u32 0,.int .u16 0,.int .u16 0,.int .u8 0,.int .i64 0,.bool false,.int .i64 0,.int .i64 0,.int .u64 0,.int .u64 0,.int .u64 0] 97)=V:=⟨_,rfl⟩;rw[jX]
 have rS:Hid (RB b Om Ot K pv (W.heap.size+1) (.slice none 0 0) (.slice none 0 0) (rz t op) W2):=by rw[← jX];exact kT.out
 have HB:Hid (Below W.heap.size W W2):=by rw[← jX];exact kU.out
 have HX:Hid (aF W2 W.heap.size #[.int .i64 1,.int .i64 n,.slice A l c,.string s] 39):=by rw[← jX];exact kV.out
 have HG:Hid (W.heap.size<=W.heap.size+1):=Nat.le_succ _;clear jX Ho dt aK kT kU kV;obtain⟨g,hg⟩:∃x,W.heap.size+1=x:=⟨_,rfl⟩;rw[hg]at rS HG
 try rw[hg]
 try simp only[hg]
 obtain⟨gx,hgx⟩:∃x,W.heap.size=x:=⟨_,rfl⟩;rw[hgx]at HX
 try rw[hgx]
 clear hg hgx;have x0:=HX.out.cell 0 _ rfl;have x1:=HX.out.cell 1 _ rfl;have x2:=HX.out.cell 2 _ rfl;have x3:=HX.out.cell 3 _ rfl;have H1:Hid (Y (b.at_ g W2 (Own Om Ot b.B b.rm pv) K) S (rz t op) W2):=(H.next HB.out).iL ⟨_,_,rS.out⟩;clear H;go_wp2_with fail;refine(td H1.out HE.out rfl Rc.out A l c bs W.heap.size (UR.out.below HB.out) HB.out.size HC.out.1 HC.out.2).mono ?_;rintro e w9 ⟨rfl,hy⟩;have H9:=hid hy;clear hy;go_wp2_with fail;go_ret;exact jD HS.out HB.out HG.out rS.out H9.out
theorem DU(H:SR b Om Ot K pv S W)(t op:Int)(ht:0<=t)(n:Int)(A:Option Addr)(l c:Nat)(s:ByteArray):Calls Tryz.prog 11 #[ptr b.B,.int .i64 t,.int .i64 op,.agg (I7 2 n A l c s)] W (zB b Om Ot K pv S W ({ rz t op with z:=n,at_:=.readClock })):=by
 have HS:=hid H;have aK:=ae W (.cells #[.int .i64 2,.int .i64 n,.slice A l c,.string s] 39);have Ho:=(H.next aK).blk.cell 18 (ptr b.mb) rfl;have dt:decide (t<0)=false:=zt;have hrb:=(H.next aK).fresh t op;have aZ:=ae (W.alloc (.cells #[.int .i64 2,.int .i64 n,.slice A l c,.string s] 39)) (.cells (n9 b.B (rz t op) (.slice none 0 0) (.slice none 0 0)) 97);have jp:Below W.heap.size W ((W.alloc (.cells #[.int .i64 2,.int .i64 n,.slice A l c,.string s] 39)).alloc (.cells (n9 b.B (rz t op) (.slice none 0 0) (.slice none 0 0)) 97)):=aK.trans (aZ.mono aK.size);have xT:=(aF.box W #[.int .i64 2,.int .i64 n,.slice A l c,.string s] 39).alloc (.cells (n9 b.B (rz t op) (.slice none 0 0) (.slice none 0 0)) 97);rw[World.size_alloc]at hrb;clear aZ;have kT:=hid hrb;have kU:=hid jp;have kV:=hid xT;clear hrb jp xT;go_in;go_upto_region 4 with fail;obtain⟨W2,jX⟩:∃V,(W.alloc (.cells #[.int .i64 2,.int .i64 n,.slice A l c,.string s] 39)).alloc (.cells #[ptr b.B,.int .i64 t,.int .i64 op,.nilFunc,.int .i64 (-1),.bool false,.bool false,.int .i64 0,.int .i64 0,.int .i64 0,.int .i64 0,.slice none 0 0,.int .u8 0,.int .u32 0,.int .u32 0,.int .u16 0,.int .u16 0,.int .u8 0,.int .u8 0,.bool false,.bool false,.nilFunc,.nilFunc,.int .i64 0,.slice none 0 0,.int .u32 0,.int .u32 0,.int .u16 0,.int .u16 0,.int .u8 0,.int .i64 0,.bool false,.int .i64 0,.int .i64 0,.int .u64 0,.int .u64 0,.int .u64 0] 97)=V:=⟨_,rfl⟩;rw[jX]
 have rS:Hid (RB b Om Ot K pv (W.heap.size+1) (.slice none 0 0) (.slice none 0 0) (rz t op) W2):=by rw[← jX];exact kT.out
 have HB:Hid (Below W.heap.size W W2):=by rw[← jX];exact kU.out
 have HX:Hid (aF W2 W.heap.size #[.int .i64 2,.int .i64 n,.slice A l c,.string s] 39):=by rw[← jX];exact kV.out
 have HG:Hid (W.heap.size<=W.heap.size+1):=Nat.le_succ _;clear jX Ho dt aK kT kU kV;obtain⟨g,hg⟩:∃x,W.heap.size+1=x:=⟨_,rfl⟩;rw[hg]at rS HG
 try rw[hg]
 try simp only[hg]
 obtain⟨gx,hgx⟩:∃x,W.heap.size=x:=⟨_,rfl⟩;rw[hgx]at HX
 try rw[hgx]
 clear hg hgx;have x0:=HX.out.cell 0 _ rfl;have x1:=HX.out.cell 1 _ rfl;have x2:=HX.out.cell 2 _ rfl;have x3:=HX.out.cell 3 _ rfl;have H1:Hid (Y (b.at_ g W2 (Own Om Ot b.B b.rm pv) K) S (rz t op) W2):=(H.next HB.out).iL ⟨_,_,rS.out⟩;clear H;have H2:=hid (H1.out.set (r':={ rz t op with z:=n }) 10 (.int .i64 n) zf rfl rfl);have f10:W2.frozen? ⟨g,10,none⟩=false:=H1.out.frozen 10;have c10:W2.cell? ⟨g,10,none⟩=some (.int .i64 0):=H1.out.cell 10 (.int .i64 0) zf;go_wp2_with fail;refine(aB H2.out .readClock _ rfl).mono ?_;rintro e w9 ⟨rfl,hy⟩;have H9:=hid hy;clear hy;go_wp2_with fail;go_ret;exact jD HS.out HB.out HG.out rS.out H9.out
theorem DV(H:SR b Om Ot K pv S W)(t op:Int)(ht:0<=t)(n:Int)(A:Option Addr)(l c:Nat)(s:ByteArray)(he:s_ b.w0)(hs:s.size<=maxLen):Calls Tryz.prog 11 #[ptr b.B,.int .i64 t,.int .i64 op,.agg (I7 3 n A l c s)] W (zB b Om Ot K pv S W (Hh b.C (rz t op) s.data.toList)):=by
 have HE:=hid he;have HZ:=hid hs;clear he hs;have HS:=hid H;have aK:=ae W (.cells #[.int .i64 3,.int .i64 n,.slice A l c,.string s] 39);have Ho:=(H.next aK).blk.cell 18 (ptr b.mb) rfl;have dt:decide (t<0)=false:=zt;have hrb:=(H.next aK).fresh t op;have aZ:=ae (W.alloc (.cells #[.int .i64 3,.int .i64 n,.slice A l c,.string s] 39)) (.cells (n9 b.B (rz t op) (.slice none 0 0) (.slice none 0 0)) 97);have jp:Below W.heap.size W ((W.alloc (.cells #[.int .i64 3,.int .i64 n,.slice A l c,.string s] 39)).alloc (.cells (n9 b.B (rz t op) (.slice none 0 0) (.slice none 0 0)) 97)):=aK.trans (aZ.mono aK.size);have xT:=(aF.box W #[.int .i64 3,.int .i64 n,.slice A l c,.string s] 39).alloc (.cells (n9 b.B (rz t op) (.slice none 0 0) (.slice none 0 0)) 97);rw[World.size_alloc]at hrb;clear aZ;have kT:=hid hrb;have kU:=hid jp;have kV:=hid xT;clear hrb jp xT;go_in;go_upto_region 4 with fail;obtain⟨W2,jX⟩:∃V,(W.alloc (.cells #[.int .i64 3,.int .i64 n,.slice A l c,.string s] 39)).alloc (.cells #[ptr b.B,.int .i64 t,.int .i64 op,.nilFunc,.int .i64 (-1),.bool false,.bool false,.int .i64 0,.int .i64 0,.int .i64 0,.int .i64 0,.slice none 0 0,.int .u8 0,.int .u32 0,.int .u32 0,.int .u16 0,.int .u16 0,.int .u8 0,.int .u8 0,.bool false,.bool false,.nilFunc,.nilFunc,.int .i64 0,.slice none 0 0,.int .u32 0,.int .u32 0,.int .u16 0,.int .u16 0,.int .u8 0,.int .i64 0,.bool false,.int .i64 0,.int .i64 0,.int .u64 0,.int .u64 0,.int .u64 0] 97)=V:=⟨_,rfl⟩;rw[jX]
 have rS:Hid (RB b Om Ot K pv (W.heap.size+1) (.slice none 0 0) (.slice none 0 0) (rz t op) W2):=by rw[← jX];exact kT.out
 have HB:Hid (Below W.heap.size W W2):=by rw[← jX];exact kU.out
 have HX:Hid (aF W2 W.heap.size #[.int .i64 3,.int .i64 n,.slice A l c,.string s] 39):=by rw[← jX];exact kV.out
 have HG:Hid (W.heap.size<=W.heap.size+1):=Nat.le_succ _;clear jX Ho dt aK kT kU kV;obtain⟨g,hg⟩:∃x,W.heap.size+1=x:=⟨_,rfl⟩;rw[hg]at rS HG
 try rw[hg]
 try simp only[hg]
 obtain⟨gx,hgx⟩:∃x,W.heap.size=x:=⟨_,rfl⟩;rw[hgx]at HX
 try rw[hgx]
 clear hg hgx;have x0:=HX.out.cell 0 _ rfl;have x1:=HX.out.cell 1 _ rfl;have x2:=HX.out.cell 2 _ rfl;have x3:=HX.out.cell 3 _ rfl;have H1:Hid (Y (b.at_ g W2 (Own Om Ot b.B b.rm pv) K) S (rz t op) W2):=(H.next HB.out).iL ⟨_,_,rS.out⟩;clear H;go_wp2_with fail;refine(wm H1.out HE.out s HZ.out).mono ?_;rintro e w9 ⟨rfl,hy⟩;have H9:=hid hy;clear hy;go_wp2_with fail;go_ret;exact jD HS.out HB.out HG.out rS.out H9.out
theorem zC(H:SR b Om Ot K pv S W)(t op:Int)(ht:0<=t)(n:Int)(A:Option Addr)(l c:Nat)(s:ByteArray):Calls Tryz.prog 11 #[ptr b.B,.int .i64 t,.int .i64 op,.agg (I7 4 n A l c s)] W (zB b Om Ot K pv S W (vp (rz t op) true)):=by
 have HS:=hid H;have aK:=ae W (.cells #[.int .i64 4,.int .i64 n,.slice A l c,.string s] 39);have Ho:=(H.next aK).blk.cell 18 (ptr b.mb) rfl;have dt:decide (t<0)=false:=zt;have hrb:=(H.next aK).fresh t op;have aZ:=ae (W.alloc (.cells #[.int .i64 4,.int .i64 n,.slice A l c,.string s] 39)) (.cells (n9 b.B (rz t op) (.slice none 0 0) (.slice none 0 0)) 97);have jp:Below W.heap.size W ((W.alloc (.cells #[.int .i64 4,.int .i64 n,.slice A l c,.string s] 39)).alloc (.cells (n9 b.B (rz t op) (.slice none 0 0) (.slice none 0 0)) 97)):=aK.trans (aZ.mono aK.size);have xT:=(aF.box W #[.int .i64 4,.int .i64 n,.slice A l c,.string s] 39).alloc (.cells (n9 b.B (rz t op) (.slice none 0 0) (.slice none 0 0)) 97);rw[World.size_alloc]at hrb;clear aZ;have kT:=hid hrb;have kU:=hid jp;have kV:=hid xT;clear hrb jp xT;go_in;go_upto_region 4 with fail;obtain⟨W2,jX⟩:∃V,(W.alloc (.cells #[.int .i64 4,.int .i64 n,.slice A l c,.string s] 39)).alloc (.cells #[ptr b.B,.int .i64 t,.int .i64 op,.nilFunc,.int .i64 (-1),.bool false,.bool false,.int .i64 0,.int .i64 0,.int .i64 0,.int .i64 0,.slice none 0 0,.int .u8 0,.int .u32 0,.int .u32 0,.int .u16 0,.int .u16 0,.int .u8 0,.int .u8 0,.bool false,.bool false,.nilFunc,.nilFunc,.int .i64 0,.slice none 0 0,.int .u32 0,.int .u32 0,.int .u16 0,.int .u16 0,.int .u8 0,.int .i64 0,.bool false,.int .i64 0,.int .i64 0,.int .u64 0,.int .u64 0,.int .u64 0] 97)=V:=⟨_,rfl⟩;rw[jX]
 have rS:Hid (RB b Om Ot K pv (W.heap.size+1) (.slice none 0 0) (.slice none 0 0) (rz t op) W2):=by rw[← jX];exact kT.out
 have HB:Hid (Below W.heap.size W W2):=by rw[← jX];exact kU.out
 have HX:Hid (aF W2 W.heap.size #[.int .i64 4,.int .i64 n,.slice A l c,.string s] 39):=by rw[← jX];exact kV.out
 have HG:Hid (W.heap.size<=W.heap.size+1):=Nat.le_succ _;clear jX Ho dt aK kT kU kV;obtain⟨g,hg⟩:∃x,W.heap.size+1=x:=⟨_,rfl⟩;rw[hg]at rS HG
 try rw[hg]
 try simp only[hg]
 obtain⟨gx,hgx⟩:∃x,W.heap.size=x:=⟨_,rfl⟩;rw[hgx]at HX
 try rw[hgx]
 clear hg hgx;have x0:=HX.out.cell 0 _ rfl;have x1:=HX.out.cell 1 _ rfl;have x2:=HX.out.cell 2 _ rfl;have x3:=HX.out.cell 3 _ rfl;have H1:Hid (Y (b.at_ g W2 (Own Om Ot b.B b.rm pv) K) S (rz t op) W2):=(H.next HB.out).iL ⟨_,_,rS.out⟩;clear H;have f20:W2.frozen? ⟨g,20,none⟩=false:=H1.out.frozen 20;have c20:W2.cell? ⟨g,20,none⟩=some (.bool false):=H1.out.cell 20 (.bool false) zf;go_wp2_with fail;refine(mZ H1.out rfl true).mono ?_;rintro e w9 ⟨rfl,hy⟩;have H9:=hid hy;clear hy;go_wp2_with fail;go_ret;exact jD HS.out HB.out HG.out rS.out H9.out
theorem zD(H:SR b Om Ot K pv S W)(t op:Int)(ht:0<=t)(n:Int)(A:Option Addr)(l c:Nat)(s:ByteArray):Calls Tryz.prog 11 #[ptr b.B,.int .i64 t,.int .i64 op,.agg (I7 6 n A l c s)] W (zB b Om Ot K pv S W (vp (rz t op) false)):=by
 have HS:=hid H;have aK:=ae W (.cells #[.int .i64 6,.int .i64 n,.slice A l c,.string s] 39);have Ho:=(H.next aK).blk.cell 18 (ptr b.mb) rfl;have dt:decide (t<0)=false:=zt;have hrb:=(H.next aK).fresh t op;have aZ:=ae (W.alloc (.cells #[.int .i64 6,.int .i64 n,.slice A l c,.string s] 39)) (.cells (n9 b.B (rz t op) (.slice none 0 0) (.slice none 0 0)) 97);have jp:Below W.heap.size W ((W.alloc (.cells #[.int .i64 6,.int .i64 n,.slice A l c,.string s] 39)).alloc (.cells (n9 b.B (rz t op) (.slice none 0 0) (.slice none 0 0)) 97)):=aK.trans (aZ.mono aK.size);have xT:=(aF.box W #[.int .i64 6,.int .i64 n,.slice A l c,.string s] 39).alloc (.cells (n9 b.B (rz t op) (.slice none 0 0) (.slice none 0 0)) 97);rw[World.size_alloc]at hrb;clear aZ;have kT:=hid hrb;have kU:=hid jp;have kV:=hid xT;clear hrb jp xT;go_in;go_upto_region 4 with fail;obtain⟨W2,jX⟩:∃V,(W.alloc (.cells #[.int .i64 6,.int .i64 n,.slice A l c,.string s] 39)).alloc (.cells #[ptr b.B,.int .i64 t,.int .i64 op,.nilFunc,.int .i64 (-1),.bool false,.bool false,.int .i64 0,.int .i64 0,.int .i64 0,.int .i64 0,.slice none 0 0,.int .u8 0,.int .u32 0,.int .u32 0,.int .u16 0,.int .u16 0,.int .u8 0,.int .u8 0,.bool false,.bool false,.nilFunc,.nilFunc,.int .i64 0,.slice none 0 0,.int .u32 0,.int .u32 0,.int .u16 0,.int .u16 0,.int .u8 0,.int .i64 0,.bool false,.int .i64 0,.int .i64 0,.int .u64 0,.int .u64 0,.int .u64 0] 97)=V:=⟨_,rfl⟩;rw[jX]
 have rS:Hid (RB b Om Ot K pv (W.heap.size+1) (.slice none 0 0) (.slice none 0 0) (rz t op) W2):=by rw[← jX];exact kT.out
 have HB:Hid (Below W.heap.size W W2):=by rw[← jX];exact kU.out
 have HX:Hid (aF W2 W.heap.size #[.int .i64 6,.int .i64 n,.slice A l c,.string s] 39):=by rw[← jX];exact kV.out
 have HG:Hid (W.heap.size<=W.heap.size+1):=Nat.le_succ _;clear jX Ho dt aK kT kU kV;obtain⟨g,hg⟩:∃x,W.heap.size+1=x:=⟨_,rfl⟩;rw[hg]at rS HG
 try rw[hg]
 try simp only[hg]
 obtain⟨gx,hgx⟩:∃x,W.heap.size=x:=⟨_,rfl⟩;rw[hgx]at HX
 try rw[hgx]
 clear hg hgx;have x0:=HX.out.cell 0 _ rfl;have x1:=HX.out.cell 1 _ rfl;have x2:=HX.out.cell 2 _ rfl;have x3:=HX.out.cell 3 _ rfl;have H1:Hid (Y (b.at_ g W2 (Own Om Ot b.B b.rm pv) K) S (rz t op) W2):=(H.next HB.out).iL ⟨_,_,rS.out⟩;clear H;have f20:W2.frozen? ⟨g,20,none⟩=false:=H1.out.frozen 20;have c20:W2.cell? ⟨g,20,none⟩=some (.bool false):=H1.out.cell 20 (.bool false) zf;go_wp2_with fail;refine(mZ H1.out rfl false).mono ?_;rintro e w9 ⟨rfl,hy⟩;have H9:=hid hy;clear hy;go_wp2_with fail;go_ret;exact jD HS.out HB.out HG.out rS.out H9.out
theorem DW(H:SR b Om Ot K pv S W)(t op:Int)(ht:0<=t)(n:Int)(A:Option Addr)(l c:Nat)(s:ByteArray):Calls Tryz.prog 11 #[ptr b.B,.int .i64 t,.int .i64 op,.agg (I7 5 n A l c s)] W (zB b Om Ot K pv S W (xS (rz t op) n)):=by
 have HS:=hid H;have aK:=ae W (.cells #[.int .i64 5,.int .i64 n,.slice A l c,.string s] 39);have Ho:=(H.next aK).blk.cell 18 (ptr b.mb) rfl;have dt:decide (t<0)=false:=zt;have hrb:=(H.next aK).fresh t op;have aZ:=ae (W.alloc (.cells #[.int .i64 5,.int .i64 n,.slice A l c,.string s] 39)) (.cells (n9 b.B (rz t op) (.slice none 0 0) (.slice none 0 0)) 97);have jp:Below W.heap.size W ((W.alloc (.cells #[.int .i64 5,.int .i64 n,.slice A l c,.string s] 39)).alloc (.cells (n9 b.B (rz t op) (.slice none 0 0) (.slice none 0 0)) 97)):=aK.trans (aZ.mono aK.size);have xT:=(aF.box W #[.int .i64 5,.int .i64 n,.slice A l c,.string s] 39).alloc (.cells (n9 b.B (rz t op) (.slice none 0 0) (.slice none 0 0)) 97);rw[World.size_alloc]at hrb;clear aZ;have kT:=hid hrb;have kU:=hid jp;have kV:=hid xT;clear hrb jp xT;go_in;go_upto_region 4 with fail;obtain⟨W2,jX⟩:∃V,(W.alloc (.cells #[.int .i64 5,.int .i64 n,.slice A l c,.string s] 39)).alloc (.cells #[ptr b.B,.int .i64 t,.int .i64 op,.nilFunc,.int .i64 (-1),.bool false,.bool false,.int .i64 0,.int .i64 0,.int .i64 0,.int .i64 0,.slice none 0 0,.int .u8 0,.int .u32 0,.int .u32 0,.int .u16 0,.int .u16 0,.int .u8 0,.int .u8 0,.bool false,.bool false,.nilFunc,.nilFunc,.int .i64 0,.slice none 0 0,.int .u32 0,.int .u32 0,.int .u16 0,.int .u16 0,.int .u8 0,.int .i64 0,.bool false,.int .i64 0,.int .i64 0,.int .u64 0,.int .u64 0,.int .u64 0] 97)=V:=⟨_,rfl⟩;rw[jX]
 have rS:Hid (RB b Om Ot K pv (W.heap.size+1) (.slice none 0 0) (.slice none 0 0) (rz t op) W2):=by rw[← jX];exact kT.out
 have HB:Hid (Below W.heap.size W W2):=by rw[← jX];exact kU.out
 have HX:Hid (aF W2 W.heap.size #[.int .i64 5,.int .i64 n,.slice A l c,.string s] 39):=by rw[← jX];exact kV.out
 have HG:Hid (W.heap.size<=W.heap.size+1):=Nat.le_succ _;clear jX Ho dt aK kT kU kV;obtain⟨g,hg⟩:∃x,W.heap.size+1=x:=⟨_,rfl⟩;rw[hg]at rS HG
 try rw[hg]
 try simp only[hg]
 obtain⟨gx,hgx⟩:∃x,W.heap.size=x:=⟨_,rfl⟩;rw[hgx]at HX
 try rw[hgx]
 clear hg hgx;have x0:=HX.out.cell 0 _ rfl;have x1:=HX.out.cell 1 _ rfl;have x2:=HX.out.cell 2 _ rfl;have x3:=HX.out.cell 3 _ rfl;have H1:Hid (Y (b.at_ g W2 (Own Om Ot b.B b.rm pv) K) S (rz t op) W2):=(H.next HB.out).iL ⟨_,_,rS.out⟩;clear H;go_wp2_with fail;refine(wk H1.out n).mono ?_;rintro e w9 ⟨rfl,hy⟩;have H9:=hid hy;clear hy;go_wp2_with fail;go_ret;exact jD HS.out HB.out HG.out rS.out H9.out
theorem Hp(H:SR b Om Ot K pv S W)(t op:Int)(ht:0<=t)(n:Int)(A:Option Addr)(l c:Nat)(s:ByteArray)(kd:Int)(h1:kd≠1)(h2:kd≠2)(h3:kd≠3)(h4:kd≠4)(h5:kd≠5)(h6:kd≠6):Calls Tryz.prog 11 #[ptr b.B,.int .i64 t,.int .i64 op,.agg (I7 kd n A l c s)] W (zB b Om Ot K pv S W (qx (rz t op) 1)):=by
 have d1:(kd==1)=false:=by simpa using h1
 have d2:(kd==2)=false:=by simpa using h2
 have d3:(kd==3)=false:=by simpa using h3
 have d4:(kd==4)=false:=by simpa using h4
 have d5:(kd==5)=false:=by simpa using h5
 have d6:(kd==6)=false:=by simpa using h6
 clear h1 h2 h3 h4 h5 h6;have HS:=hid H;have aK:=ae W (.cells #[.int .i64 kd,.int .i64 n,.slice A l c,.string s] 39);have Ho:=(H.next aK).blk.cell 18 (ptr b.mb) rfl;have dt:decide (t<0)=false:=zt;have hrb:=(H.next aK).fresh t op;have aZ:=ae (W.alloc (.cells #[.int .i64 kd,.int .i64 n,.slice A l c,.string s] 39)) (.cells (n9 b.B (rz t op) (.slice none 0 0) (.slice none 0 0)) 97);have jp:Below W.heap.size W ((W.alloc (.cells #[.int .i64 kd,.int .i64 n,.slice A l c,.string s] 39)).alloc (.cells (n9 b.B (rz t op) (.slice none 0 0) (.slice none 0 0)) 97)):=aK.trans (aZ.mono aK.size);have xT:=(aF.box W #[.int .i64 kd,.int .i64 n,.slice A l c,.string s] 39).alloc (.cells (n9 b.B (rz t op) (.slice none 0 0) (.slice none 0 0)) 97);rw[World.size_alloc]at hrb;clear aZ;have kT:=hid hrb;have kU:=hid jp;have kV:=hid xT;clear hrb jp xT;go_in;go_upto_region 4 with fail;obtain⟨W2,jX⟩:∃V,(W.alloc (.cells #[.int .i64 kd,.int .i64 n,.slice A l c,.string s] 39)).alloc (.cells #[ptr b.B,.int .i64 t,.int .i64 op,.nilFunc,.int .i64 (-1),.bool false,.bool false,.int .i64 0,.int .i64 0,.int .i64 0,.int .i64 0,.slice none 0 0,.int .u8 0,.int .u32 0,.int .u32 0,.int .u16 0,.int .u16 0,.int .u8 0,.int .u8 0,.bool false,.bool false,.nilFunc,.nilFunc,.int .i64 0,.slice none 0 0,.int .u32 0,.int .u32 0,.int .u16 0,.int .u16 0,.int .u8 0,.int .i64 0,.bool false,.int .i64 0,.int .i64 0,.int .u64 0,.int .u64 0,.int .u64 0] 97)=V:=⟨_,rfl⟩;rw[jX]
 have rS:Hid (RB b Om Ot K pv (W.heap.size+1) (.slice none 0 0) (.slice none 0 0) (rz t op) W2):=by rw[← jX];exact kT.out
 have HB:Hid (Below W.heap.size W W2):=by rw[← jX];exact kU.out
 have HX:Hid (aF W2 W.heap.size #[.int .i64 kd,.int .i64 n,.slice A l c,.string s] 39):=by rw[← jX];exact kV.out
 have HG:Hid (W.heap.size<=W.heap.size+1):=Nat.le_succ _;clear jX Ho dt aK kT kU kV;obtain⟨g,hg⟩:∃x,W.heap.size+1=x:=⟨_,rfl⟩;rw[hg]at rS HG
 try rw[hg]
 try simp only[hg]
 obtain⟨gx,hgx⟩:∃x,W.heap.size=x:=⟨_,rfl⟩;rw[hgx]at HX
 try rw[hgx]
 clear hg hgx;have x0:=HX.out.cell 0 _ rfl;have x1:=HX.out.cell 1 _ rfl;have x2:=HX.out.cell 2 _ rfl;have x3:=HX.out.cell 3 _ rfl;have H1:Hid (Y (b.at_ g W2 (Own Om Ot b.B b.rm pv) K) S (rz t op) W2):=(H.next HB.out).iL ⟨_,_,rS.out⟩;clear H;go_wp2_with fail;refine(oU H1.out 1).mono ?_;rintro e w9 ⟨rfl,hy⟩;have H9:=hid hy;clear hy;go_wp2_with fail;go_ret;exact jD HS.out HB.out HG.out rS.out H9.out
theorem Hq(H:SR b Om Ot K pv S W)(t op:Int)(ht:0<=t)(n:Int)(A:Option Addr)(l c:Nat)(s:ByteArray)(kd:Int)(he:s_ b.w0)(Oz:cB.bN (b.C.n:Int)=true)(bs:List UInt8)(hb:bI W W.heap.size A l bs)(hc:l<=c)(hm:c<=9223372036854775807)(hs:s.size<=maxLen):Calls Tryz.prog 11 #[ptr b.B,.int .i64 t,.int .i64 op,.agg (I7 kd n A l c s)] W (zB b Om Ot K pv S W (sZ b.C t op kd n bs s.data.toList)):=by
 unfold sZ;by_cases h1:kd=1
 ·subst h1;rw[if_pos rfl];exact Hl H t op ht n A l c s he Oz bs hb hc hm
 rw[if_neg h1];by_cases h2:kd=2
 ·subst h2;rw[if_pos rfl];exact DU H t op ht n A l c s
 rw[if_neg h2];by_cases h3:kd=3
 ·subst h3;rw[if_pos rfl];exact DV H t op ht n A l c s he hs
 rw[if_neg h3];by_cases h4:kd=4
 ·subst h4;rw[if_pos rfl];exact zC H t op ht n A l c s
 rw[if_neg h4];by_cases h6:kd=6
 ·subst h6;rw[if_pos rfl];exact zD H t op ht n A l c s
 rw[if_neg h6];by_cases h5:kd=5
 ·subst h5;rw[if_pos rfl];exact DW H t op ht n A l c s
 rw[if_neg h5];exact Hp H t op ht n A l c s kd h1 h2 h3 h4 h5 h6
end
end Pg
end Go.Proofs.YtbhnbcadgmagpaaGreatDoor
namespace Go.Proofs.YtbhnbcadgmagpaaGreatDoor
open Go.ChangeShapes Go.WideShapes Go.ChangeAt Go.RowKit Go.aN Go.Lib
namespace Pg
open bg (Ms af bq ay aP ag L4 aH aq ai bD)
open aE (R)
open ak (Ke)
open Me (ptr)
open Tb (UW TM Fw)
theorem qA(z N:Int)(T:Nat->Int):(Tryz.prog.info? 24).map (·.size)=some (Au.iT z N T).size:=(by kernel_rfl:(Tryz.prog.info? 24).map (·.size)=some 18)
theorem OQ{w:World}(he:Au.Env w)(z N:Int)(T:Nat->Int)(hz : -9223372036854775808<=z/\z<=9223372036854775807)(A:Option Addr)(n c:Nat)(rs:List R)(hn:rs.length=n)(hr:gK w w.heap.size (.slice A n c) rs)(ho:∀r∈rs,r.Ok)(h0:Au.oZ z N rs≠0) :
  Calls Tryz.prog 7 #[.agg (Au.iT z N T),.slice A n c] w λe w'=>e = .returned (.tuple #[.pointer none,.int .i64 (Au.oZ z N rs)])/\Below w.heap.size w w':=by
 have HX:=hid (aF.box w (Au.iT z N T) 24)
 have HB:=hid (ae w (.cells (Au.iT z N T) 24))
 have WL:Hid (∀W,Below w.heap.size w W->Calls Tryz.prog 31 #[.agg (Au.iT z N T),.slice A n c] W λe w'=>e = .returned (.int .i64 (Au.oZ z N rs))/\Below W.heap.size W w'):=λW h =>
  Au.Fo z N T hz (he.only (O:=λ_=>False) (ar.aS h) λ_ e=>e.elim) A n c rs hn (hr.below h) ho
 generalize Au.oZ z N rs=ce at *
 have d0:(ce==0)=false:=by simpa using h0
 clear hn hr ho h0 he hz
 go_in
 go_wp2_with (refine wpList_load_row rfl 24 (.tmp 2) rfl w.heap.size rfl _ (Au.iT z N T) _ _ HX.out Tryz.underlying24 rfl (qA z N T) ?_)
 refine(WL.out _ HB.out).mono ?_
 rintro e w1 ⟨rfl,hb⟩
 have dF:=hid (HB.out.trans (hb.mono HB.out.size))
 clear hb
 go_wp2_with fail
 go_ret2
 exact⟨rfl,dF.out⟩
theorem vx(W:World)(K:Nat->Prop):iK (W.alloc (.map #[] 0)) K W.heap.size λ_=>[] :=
 ⟨#[],0,MapKept.heap_alloc W _ |>.1,λe h=>by simp at h,by simp,λ_ _=>rfl⟩
structure NA(w W:World)(n mb tb rm:Nat)(Om Ot K:Nat->Prop)(ms:Ms)(rl:Int->List R):Prop where
 mem:Me.kA W Om mb ms
 dr:UW W Ot tb mb n []
 map:iK W K rm rl
 az:Below w.heap.size w W
 nm:∀j,Om j->w.heap.size<=j
 nt:∀j,Ot j->w.heap.size<=j
 nr:w.heap.size<=rm
 tC:∀j,Om j->¬Ot j
 mr : ¬Om rm
 tr : ¬Ot rm
 dk:∀j,K j->¬Om j/\¬Ot j/\j≠rm/\j<W.heap.size
def bs(w:World)(C:Cf)(B mb tb rm:Nat):Bs:=⟨w,C,B,mb,tb,rm,0,w,λ_=>False,λ_=>False⟩
theorem NA.sr{w W:World}{C:Cf}{mb tb rm:Nat}{Om Ot K:Nat->Prop}{ms:Ms}{rl:Int->List R}(H:NA w W C.n mb tb rm Om Ot K ms rl) :
  SR (bs w C W.heap.size mb tb rm) Om Ot K (.slice none 0 0) ⟨ms,[],rl,[]⟩ (W.alloc (.cells (MZ C mb tb rm (.slice none 0 0)) 83)) :=
 have hb:=ae W (.cells (MZ C mb tb rm (.slice none 0 0)) 83)
 {mem:=H.mem.next hb,dr:=H.dr.next hb,blk:=aF.box W _ _
  map:=H.map.only (ar.aS (O:=λ_=>False) hb) (λe=>e) λ_ _ e=>e
  pts:=World.ownsRow_nil _ _ _ _
  az:=H.az.alloc H.az.size _
  nm:=H.nm,nt:=H.nt,nb:=H.az.size,nr:=H.nr,tC:=H.tC
  dm:=⟨λe=>by have h:W.heap.size<W.heap.size:=H.mem.lt _ e;omega,H.mr⟩
  dt:=⟨λe=>by have h:W.heap.size<W.heap.size:=H.dr.C4 _ e;omega,H.tr⟩
  br:=λe=>by have:=H.map.lt;have e:W.heap.size=rm:=e;omega
  dp:=λj h=>by cases h
  dk:=λj hj=>by
   obtain⟨h1,h2,h3,h4⟩:=H.dk j hj
   refine⟨λh=>?_,by rw[World.size_alloc];omega⟩
   rcases h with h | h | h | h | h
   ·exact h1 h
   ·exact h2 h
   ·have h:j=W.heap.size:=h
    omega
   ·exact h3 h
   ·cases h }
def vy(rs:List R)(A:Option Addr)(c:Nat)(j:Nat):Prop:=0<rs.length/\(Value.slice A rs.length c).ownBlock=some j
theorem D6{W:World}{rs:List R}{A:Option Addr}{c:Nat}(h:gK W W.heap.size (.slice A rs.length c) rs)(ho:∀r∈rs,r.Ok):Lv W (vy rs A c) (.slice A rs.length c) rs:=⟨h,λhn g e=>⟨hn,e⟩,ho⟩
theorem rT{W:World}{rs:List R}{A:Option Addr}{c:Nat}(h:gK W W.heap.size (.slice A rs.length c) rs){j:Nat}(hj:vy rs A c j):∃off,A=some ⟨j,off,none⟩/\j<W.heap.size:=by
 obtain⟨A6,c6,e,_,_,h4⟩:=h;obtain⟨g,off,e2,h5,_⟩:=h4 hj.1;injection e with e;subst e;subst e2;have e3:g=j:=Option.some.inj hj.2;subst e3;exact⟨off,rfl,h5⟩
theorem L5{w:World}{g:Nat}{cs:Array Value}{t:TypeId}(H:aF w g cs t){ρ:Operand->Value}{o:Oper}(x:Operand)(ho:o.op = .load t x)(hx:ρ x = .pointer (some ⟨g,0,none⟩)){d:TypeDesc}(hd:d.isRow=true)(hu:Tryz.prog.underlying t=some d)(hs:(Tryz.prog.info? t).map (·.size)=some cs.size) :
  (execOp ρ o).run Tryz.prog w = .ok (.value (.agg cs)) w:=by
 have hr:w.rangeAt g 0 cs.toList:=λj v hv=>by rw[Nat.zero_add];exact H.cell j v (by simpa using hv)
 have h:=run_loadVar_mid (P:=Tryz.prog) w g 0 t cs.toList d hr hu hd (by simpa using hs)
 rw[Array.toArray_toList]at h
 unfold execOp
 simp only[ho,hx,Instr.loadAt,Instr.sureAddr,Sem.run_bind,Sem.run_pure,Result.andThen_ok,h]
theorem zE{w:World}(he:Au.Env w)(z:Nat)(N:Int)(T:Nat->Int)(A:Option Addr)(n c:Nat)(rs:List R)(hn:rs.length=n)(hr:gK w w.heap.size (.slice A n c) rs)(ho:∀r∈rs,r.Ok)(h0:Au.oZ z N rs=0)(hp:cB.bN (z:Int)=true)(Yw:n<=64) :
  Calls Tryz.prog 7 #[.agg (Au.iT z N T),.slice A n c] w λe w'=>∃B mb tb rm Om Ot K,e = .returned (.tuple #[ptr B,.int .i64 0])/\SR (bs w ⟨z,N,T⟩ B mb tb rm) Om Ot K (.slice none 0 0) ⟨bg.l7 6 ((z:Int)+1),[],ic (λ_=>[]) 0 rs,[]⟩ w':=by
 have hz:z<=4096:=by have:=cB.ko hp;omega
 have HX:=hid (aF.box w (Au.iT z N T) 24)
 have HB:=hid (ae w (.cells (Au.iT z N T) 24))
 have WL:Hid (∀W,Below w.heap.size w W->Calls Tryz.prog 31 #[.agg (Au.iT z N T),.slice A n c] W λe w'=>e = .returned (.int .i64 0)/\Below W.heap.size W w'):=λW h =>
  h0▸Au.Fo z N T zo (he.only (O:=λ_=>False) (ar.aS h) λ_ e=>e.elim) A n c rs hn (hr.below h) ho
 have AU:Hid (∀W,Below w.heap.size w W->Calls Tryz.prog 34 #[.slice A n c] W λe w'=>∃v,e = .returned v/\gK w' w'.heap.size v rs/\(0<rs.length->∀a n c,v = .slice (some a) n c->W.heap.size<=a.block)/\Below W.heap.size W w'):=λW h=>Au.qY A n c rs W hn (hr.below h) zo
 have Sn:Hid (∀W mb,Calls Tryz.prog 33 #[ptr mb,.int .i64 (z:Int)] W λe w'=>∃O B,e = .returned (ptr B)/\UW w' O B mb z []/\Below W.heap.size W w'/\∀j,O j->W.heap.size<=j):=λW mb=>Tb.zE W mb z hp
 have HO:=hid ho
 clear hn hr ho h0 he hp Yw
 go_in
 go_wp2_with (refine wpList_load_row rfl 24 (.tmp 2) rfl w.heap.size rfl _ (Au.iT z N T) _ _ HX.out Tryz.underlying24 rfl (qA z N T) ?_)
 refine(WL.out _ HB.out).mono ?_
 rintro e w1 ⟨rfl,hb⟩
 have CA:=hid (HX.out.next hb)
 have dF:=hid (HB.out.trans (hb.mono HB.out.size))
 have hcc:=CA.out.cell 0 _ rfl
 clear hb HX HB
 go_wp2_with fail
 refine(Me.NI 6 ((z:Int)+1) _).mono ?_
 rintro e w2 ⟨Om,mb,rfl,hm,hb,hO⟩
 have HM:=hid hm
 have WM:Hid (∀j,Om j->w.heap.size<=j):=λj hj=>Nat.le_trans dF.out.size (hO j hj)
 have Z5:=hid (CA.out.next hb)
 have CE:=hid (dF.out.trans (hb.mono dF.out.size))
 clear hm hb hO hcc CA dF
 go_wp2_with fail
 refine wp_region_held_drew (S:=λw'=>aF w' w.heap.size (Au.iT z N T) 24/\Below w.heap.size w w'/\Me.kA w' Om mb (bg.l7 6 ((z:Int)+1))) zk (⟨Z5.out.drew,CE.out.drew,HM.out.next (Below.refl _ w2).drew⟩) (λhH=>?_)
 refine zqt 0 (some 19) ?v1 rfl rfl ?c1 hH ?r1
 case c1=>(intro w' hS;refine L5 hS.1 (.tmp 2) ?_ ?_ ?_ Tryz.underlying24 (qA z N T) <;> rfl)
 try simp only[zq]
 refine zr 1 20 hH ?_
 refine zr 2 21 hH ?_
 refine zr 3 22 hH ?_
 try simp only[zq]
 refine zqt 4 (some 23) ?v5 rfl rfl ?c5 hH ?r5
 case c5=>(intro w' hS;have c0:=hS.1.cell 0 _ rfl;go_simp;(try with_reducible rfl))
 try simp only[zq]
 refine zr 7 26 hH ?_
 try simp only[zq]
 refine wpAnyH_ready (rs:=[5,6]) zk zs (AllReadyH.cons rfl (λK hK=>?_) (AllReadyH.cons rfl (λK hK=>?_) (AllReadyH.nil)))
 ·have hN:=And.intro hH.2.2.lt hH.2.1.size;go_simp;refine(Sn.out _ mb).mono ?_;rintro e wT ⟨Ot,tb,rfl,ht,hb,hO⟩;refine hK.out _ _ (⟨hH.1.next hb,hH.2.1.trans (hb.mono hH.2.1.size),hH.2.2.next hb⟩) (λhH=>?_);clear hK K;have HT:Hid (UW wT Ot tb mb z []):=ht
  have UX:Hid (∀j,Om j->¬Ot j):=λj h1 h2=>by have h3:=hN.1 j h1;have h4:=hO j h2;omega
  have UY:Hid (∀j,Ot j->w.heap.size<=j):=λj hj=>Nat.le_trans hN.2 (hO j hj);clear ht hb hO hN
  try simp only[zq]
  refine wpAnyH_ready (rs:=[6,8]) zk zs (AllReadyH.cons rfl (λK hK=>?_) (AllReadyH.cons rfl (λK hK=>?_) (AllReadyH.nil)))
  ·have hN:=And.intro hH.2.2.lt (And.intro hH.2.1.size hH.1.lt);have hb:=ae wT (.map #[] 0);go_simp;refine hK.out _ _ (⟨hH.1.next hb,hH.2.1.trans (hb.mono hH.2.1.size),hH.2.2.next hb⟩) (λhH=>?_);clear hK K
   have P7:Hid (¬Om wT.heap.size):=λe=>by have h:=hN.1 _ e;omega
   have P8:Hid (w.heap.size<=wT.heap.size):=hN.2.1
   have TH:Hid (w.heap.size≠wT.heap.size):=λe=>by have h:=hN.2.2;omega
   have Bj:Hid (¬Ot wT.heap.size):=λe=>by have h:wT.heap.size<wT.heap.size:=HT.out.C4 _ e;omega
   have hb:Below wT.heap.size wT ({ heap:=wT.heap.push (.map #[] 0),tape:=wT.tape,drawn:=wT.drawn,os:=wT.os,output:=wT.output }:World):=ae wT (.map #[] 0);replace HT:=hid (HT.out.next hb);have HR:Hid (∀K,iK ({ heap:=wT.heap.push (.map #[] 0),tape:=wT.tape,drawn:=wT.drawn,os:=wT.os,output:=wT.output }:World) K wT.heap.size λ_=>[]):=λK=>vx wT K;clear hb hN;generalize ({ heap:=wT.heap.push (.map #[] 0),tape:=wT.tape,drawn:=wT.drawn,os:=wT.os,output:=wT.output }:World)=wM at *;generalize wT.heap.size=rm at *
   try simp only[zq]
   refine zrd 8 (λK hK=>?_);have hN:=And.intro hH.2.2.lt HT.out.C4;have TI:=(HR.out (λ_=>False)).lt;go_simp;refine(AU.out _ hH.2.1).mono ?_;rintro e wC ⟨v,rfl,hrd,hown,hb⟩;refine hK.out _ _ (⟨hH.1.next hb,hH.2.1.trans (hb.mono hH.2.1.size),hH.2.2.next hb⟩) (λhH=>?_);clear hK K
   obtain⟨A5,c5,rfl⟩:∃A5 c5,v = .slice A5 rs.length c5:=by
    obtain⟨A5,c5,e,_⟩:=hrd;exact⟨A5,c5,e⟩
   have hkb:∀j,vy rs A5 c5 j->(∀i,Om i->i<j)/\(∀i,Ot i->i<j)/\rm<j/\j<wC.heap.size:=λj hj=>by
    obtain⟨off,rfl,h5⟩:=rT hrd hj;exact⟨λi hi=>Nat.lt_of_lt_of_le (hN.1 i hi) (hown hj.1 _ _ _ rfl),λi hi=>Nat.lt_of_lt_of_le (hN.2 i hi) (hown hj.1 _ _ _ rfl),Nat.lt_of_lt_of_le TI (hown hj.1 _ _ _ rfl),h5⟩
   have HC:Hid (Lv wC (vy rs A5 c5) (.slice A5 rs.length c5) rs):=D6 hrd HO.out;have PW:Hid (∀j,vy rs A5 c5 j->j<wC.heap.size):=λj hj=>(hkb j hj).2.2.2;have EL:Hid (∀j,vy rs A5 c5 j->¬Om j/\¬Ot j):=λj hj=>⟨λe=>Nat.lt_irrefl _ ((hkb j hj).1 j e),λe=>Nat.lt_irrefl _ ((hkb j hj).2.1 j e)⟩;have P9:Hid (¬vy rs A5 c5 rm):=λe=>Nat.lt_irrefl _ (hkb _ e).2.2.1;replace HT:=hid (HT.out.next hb);replace HR:=hid (λK=>(HR.out K).only (ar.aS (O:=λ_=>False) hb) (λe=>e) λ_ _ e=>e);clear hrd hown hb hkb hN TI
   try simp only[zq]
   refine zrd 9 (λK hK=>?_);obtain⟨wI,hrun,hmap,xU⟩:=(HR.out (vy rs A5 c5)).put P9.out 0 HC.out
   have L6:Hid (NA w wI z mb tb rm Om Ot (vy rs A5 c5) (bg.l7 6 ((z:Int)+1)) (ic (λ_=>[]) 0 rs)) :=
    ⟨hH.2.2.far xU (λj hj e=>P7.out (e▸hj)),HT.out.far xU (λj hj e=>Bj.out (e▸hj)),hmap,hH.2.1.trans (xU.below (λj e=>e▸P8.out) hH.2.1.size),WM.out,UY.out,P8.out,UX.out,P7.out,Bj.out,λj hj=>⟨(EL.out j hj).1,(EL.out j hj).2,λe=>P9.out (e▸hj),by
     obtain⟨off,_,h5⟩:=rT HC.out.1 hj
     exact Nat.lt_of_lt_of_le h5 xU.size⟩⟩
   go_simp;refine hK.out _ _ (⟨hH.1.only xU TH.out,L6.out.az,L6.out.mem⟩) (λhH=>?_);clear hK K;clear hrun hmap xU HT HR HC
   try simp only[zq]
   refine zr 10 28 hH ?_;refine zr 11 29 hH ?_
   try simp only[zq]
   refine zrd 12 (λK hK=>?_);have hb:=ae wI (.cells (MZ ⟨z,N,T⟩ mb tb rm (.slice none 0 0)) 83);have TJ:=hid (NA.sr (C:=⟨z,N,T⟩) L6.out);go_simp;refine hK.out _ _ (⟨hH.1.next hb,hH.2.1.trans (hb.mono hH.2.1.size),hH.2.2.next hb⟩) (λhH=>?_);clear hK K;clear hb
   try simp only[zq]
   refine zr 13 8 hH ?_
   try simp only[zq]
   refine wpAnyH_done zk ?_ _;clear hH;go_wp2_with fail;go_ret2;exact⟨_,_,_,_,_,_,_,rfl,TJ.out⟩
  ·have hN:=And.intro hH.2.2.lt HT.out.C4;go_simp;refine(AU.out _ hH.2.1).mono ?_;rintro e wC ⟨v,rfl,hrd,hown,hb⟩;refine hK.out _ _ (⟨hH.1.next hb,hH.2.1.trans (hb.mono hH.2.1.size),hH.2.2.next hb⟩) (λhH=>?_);clear hK K
   obtain⟨A5,c5,rfl⟩:∃A5 c5,v = .slice A5 rs.length c5:=by
    obtain⟨A5,c5,e,_⟩:=hrd;exact⟨A5,c5,e⟩
   have hkb:∀j,vy rs A5 c5 j->(∀i,Om i->i<j)/\(∀i,Ot i->i<j)/\j<wC.heap.size:=λj hj=>by
    obtain⟨off,rfl,h5⟩:=rT hrd hj;exact⟨λi hi=>Nat.lt_of_lt_of_le (hN.1 i hi) (hown hj.1 _ _ _ rfl),λi hi=>Nat.lt_of_lt_of_le (hN.2 i hi) (hown hj.1 _ _ _ rfl),h5⟩
   have HC:Hid (Lv wC (vy rs A5 c5) (.slice A5 rs.length c5) rs):=D6 hrd HO.out;have PW:Hid (∀j,vy rs A5 c5 j->j<wC.heap.size):=λj hj=>(hkb j hj).2.2;have EL:Hid (∀j,vy rs A5 c5 j->¬Om j/\¬Ot j):=λj hj=>⟨λe=>Nat.lt_irrefl _ ((hkb j hj).1 j e),λe=>Nat.lt_irrefl _ ((hkb j hj).2.1 j e)⟩;replace HT:=hid (HT.out.next hb);clear hrd hown hb hkb hN
   try simp only[zq]
   refine zrd 6 (λK hK=>?_);have hN:=And.intro hH.2.2.lt (And.intro hH.2.1.size hH.1.lt);have hb:=ae wC (.map #[] 0);go_simp;refine hK.out _ _ (⟨hH.1.next hb,hH.2.1.trans (hb.mono hH.2.1.size),hH.2.2.next hb⟩) (λhH=>?_);clear hK K
   have P7:Hid (¬Om wC.heap.size):=λe=>by have h:=hN.1 _ e;omega
   have P8:Hid (w.heap.size<=wC.heap.size):=hN.2.1
   have TH:Hid (w.heap.size≠wC.heap.size):=λe=>by have h:=hN.2.2;omega
   have Bj:Hid (¬Ot wC.heap.size):=λe=>by have h:wC.heap.size<wC.heap.size:=HT.out.C4 _ e;omega
   have P9:Hid (¬vy rs A5 c5 wC.heap.size):=λe=>by have h:=PW.out _ e;omega
   have hb:Below wC.heap.size wC ({ heap:=wC.heap.push (.map #[] 0),tape:=wC.tape,drawn:=wC.drawn,os:=wC.os,output:=wC.output }:World):=ae wC (.map #[] 0);replace HT:=hid (HT.out.next hb);replace HC:=hid (HC.out.only (ar.aS (O:=λ_=>False) hb) λ_ _ e=>e);have HR:Hid (∀K,iK ({ heap:=wC.heap.push (.map #[] 0),tape:=wC.tape,drawn:=wC.drawn,os:=wC.os,output:=wC.output }:World) K wC.heap.size λ_=>[]):=λK=>vx wC K;clear hb hN;generalize ({ heap:=wC.heap.push (.map #[] 0),tape:=wC.tape,drawn:=wC.drawn,os:=wC.os,output:=wC.output }:World)=wM at *;generalize wC.heap.size=rm at *
   try simp only[zq]
   refine zrd 9 (λK hK=>?_);obtain⟨wI,hrun,hmap,xU⟩:=(HR.out (vy rs A5 c5)).put P9.out 0 HC.out
   have L6:Hid (NA w wI z mb tb rm Om Ot (vy rs A5 c5) (bg.l7 6 ((z:Int)+1)) (ic (λ_=>[]) 0 rs)) :=
    ⟨hH.2.2.far xU (λj hj e=>P7.out (e▸hj)),HT.out.far xU (λj hj e=>Bj.out (e▸hj)),hmap,hH.2.1.trans (xU.below (λj e=>e▸P8.out) hH.2.1.size),WM.out,UY.out,P8.out,UX.out,P7.out,Bj.out,λj hj=>⟨(EL.out j hj).1,(EL.out j hj).2,λe=>P9.out (e▸hj),by
     obtain⟨off,_,h5⟩:=rT HC.out.1 hj
     exact Nat.lt_of_lt_of_le h5 xU.size⟩⟩
   go_simp;refine hK.out _ _ (⟨hH.1.only xU TH.out,L6.out.az,L6.out.mem⟩) (λhH=>?_);clear hK K;clear hrun hmap xU HT HR HC
   try simp only[zq]
   refine zr 10 28 hH ?_;refine zr 11 29 hH ?_
   try simp only[zq]
   refine zrd 12 (λK hK=>?_);have hb:=ae wI (.cells (MZ ⟨z,N,T⟩ mb tb rm (.slice none 0 0)) 83);have TJ:=hid (NA.sr (C:=⟨z,N,T⟩) L6.out);go_simp;refine hK.out _ _ (⟨hH.1.next hb,hH.2.1.trans (hb.mono hH.2.1.size),hH.2.2.next hb⟩) (λhH=>?_);clear hK K;clear hb
   try simp only[zq]
   refine zr 13 8 hH ?_
   try simp only[zq]
   refine wpAnyH_done zk ?_ _;clear hH;go_wp2_with fail;go_ret2;exact⟨_,_,_,_,_,_,_,rfl,TJ.out⟩
 ·have hN:=And.intro hH.2.2.lt (And.intro hH.2.1.size hH.1.lt);have hb:=ae w2.drew (.map #[] 0);go_simp;refine hK.out _ _ (⟨hH.1.next hb,hH.2.1.trans (hb.mono hH.2.1.size),hH.2.2.next hb⟩) (λhH=>?_);clear hK K
  have P7:Hid (¬Om w2.drew.heap.size):=λe=>by have h:=hN.1 _ e;omega
  have P8:Hid (w.heap.size<=w2.drew.heap.size):=hN.2.1
  have TH:Hid (w.heap.size≠w2.drew.heap.size):=λe=>by have h:=hN.2.2;omega
  have hb:Below w2.drew.heap.size w2.drew ({ heap:=w2.drew.heap.push (.map #[] 0),tape:=w2.drew.tape,drawn:=w2.drew.drawn,os:=w2.drew.os,output:=w2.drew.output }:World):=ae w2.drew (.map #[] 0);have HR:Hid (∀K,iK ({ heap:=w2.drew.heap.push (.map #[] 0),tape:=w2.drew.tape,drawn:=w2.drew.drawn,os:=w2.drew.os,output:=w2.drew.output }:World) K w2.drew.heap.size λ_=>[]):=λK=>vx w2.drew K;clear hb hN;generalize ({ heap:=w2.drew.heap.push (.map #[] 0),tape:=w2.drew.tape,drawn:=w2.drew.drawn,os:=w2.drew.os,output:=w2.drew.output }:World)=wM at *;generalize w2.drew.heap.size=rm at *
  try simp only[zq]
  refine zrd 5 (λK hK=>?_);have hN:=And.intro hH.2.2.lt hH.2.1.size;go_simp;refine(Sn.out _ mb).mono ?_;rintro e wT ⟨Ot,tb,rfl,ht,hb,hO⟩;refine hK.out _ _ (⟨hH.1.next hb,hH.2.1.trans (hb.mono hH.2.1.size),hH.2.2.next hb⟩) (λhH=>?_);clear hK K;have HT:Hid (UW wT Ot tb mb z []):=ht
  have UX:Hid (∀j,Om j->¬Ot j):=λj h1 h2=>by have h3:=hN.1 j h1;have h4:=hO j h2;omega
  have UY:Hid (∀j,Ot j->w.heap.size<=j):=λj hj=>Nat.le_trans hN.2 (hO j hj)
  have Bj:Hid (¬Ot rm):=λe=>by have h3:=(HR.out (λ_=>False)).lt;have h4:=hO _ e;omega
  replace HR:=hid (λK=>(HR.out K).only (ar.aS (O:=λ_=>False) hb) (λe=>e) λ_ _ e=>e);clear ht hb hO hN
  try simp only[zq]
  refine zrd 8 (λK hK=>?_);have hN:=And.intro hH.2.2.lt HT.out.C4;have TI:=(HR.out (λ_=>False)).lt;go_simp;refine(AU.out _ hH.2.1).mono ?_;rintro e wC ⟨v,rfl,hrd,hown,hb⟩;refine hK.out _ _ (⟨hH.1.next hb,hH.2.1.trans (hb.mono hH.2.1.size),hH.2.2.next hb⟩) (λhH=>?_);clear hK K
  obtain⟨A5,c5,rfl⟩:∃A5 c5,v = .slice A5 rs.length c5:=by
   obtain⟨A5,c5,e,_⟩:=hrd;exact⟨A5,c5,e⟩
  have hkb:∀j,vy rs A5 c5 j->(∀i,Om i->i<j)/\(∀i,Ot i->i<j)/\rm<j/\j<wC.heap.size:=λj hj=>by
   obtain⟨off,rfl,h5⟩:=rT hrd hj;exact⟨λi hi=>Nat.lt_of_lt_of_le (hN.1 i hi) (hown hj.1 _ _ _ rfl),λi hi=>Nat.lt_of_lt_of_le (hN.2 i hi) (hown hj.1 _ _ _ rfl),Nat.lt_of_lt_of_le TI (hown hj.1 _ _ _ rfl),h5⟩
  have HC:Hid (Lv wC (vy rs A5 c5) (.slice A5 rs.length c5) rs):=D6 hrd HO.out;have PW:Hid (∀j,vy rs A5 c5 j->j<wC.heap.size):=λj hj=>(hkb j hj).2.2.2;have EL:Hid (∀j,vy rs A5 c5 j->¬Om j/\¬Ot j):=λj hj=>⟨λe=>Nat.lt_irrefl _ ((hkb j hj).1 j e),λe=>Nat.lt_irrefl _ ((hkb j hj).2.1 j e)⟩;have P9:Hid (¬vy rs A5 c5 rm):=λe=>Nat.lt_irrefl _ (hkb _ e).2.2.1;replace HT:=hid (HT.out.next hb);replace HR:=hid (λK=>(HR.out K).only (ar.aS (O:=λ_=>False) hb) (λe=>e) λ_ _ e=>e);clear hrd hown hb hkb hN TI
  try simp only[zq]
  refine zrd 9 (λK hK=>?_);obtain⟨wI,hrun,hmap,xU⟩:=(HR.out (vy rs A5 c5)).put P9.out 0 HC.out
  have L6:Hid (NA w wI z mb tb rm Om Ot (vy rs A5 c5) (bg.l7 6 ((z:Int)+1)) (ic (λ_=>[]) 0 rs)) :=
   ⟨hH.2.2.far xU (λj hj e=>P7.out (e▸hj)),HT.out.far xU (λj hj e=>Bj.out (e▸hj)),hmap,hH.2.1.trans (xU.below (λj e=>e▸P8.out) hH.2.1.size),WM.out,UY.out,P8.out,UX.out,P7.out,Bj.out,λj hj=>⟨(EL.out j hj).1,(EL.out j hj).2,λe=>P9.out (e▸hj),by
    obtain⟨off,_,h5⟩:=rT HC.out.1 hj
    exact Nat.lt_of_lt_of_le h5 xU.size⟩⟩
  go_simp;refine hK.out _ _ (⟨hH.1.only xU TH.out,L6.out.az,L6.out.mem⟩) (λhH=>?_);clear hK K;clear hrun hmap xU HT HR HC
  try simp only[zq]
  refine zr 10 28 hH ?_;refine zr 11 29 hH ?_
  try simp only[zq]
  refine zrd 12 (λK hK=>?_);have hb:=ae wI (.cells (MZ ⟨z,N,T⟩ mb tb rm (.slice none 0 0)) 83);have TJ:=hid (NA.sr (C:=⟨z,N,T⟩) L6.out);go_simp;refine hK.out _ _ (⟨hH.1.next hb,hH.2.1.trans (hb.mono hH.2.1.size),hH.2.2.next hb⟩) (λhH=>?_);clear hK K;clear hb
  try simp only[zq]
  refine zr 13 8 hH ?_
  try simp only[zq]
  refine wpAnyH_done zk ?_ _;clear hH;go_wp2_with fail;go_ret2;exact⟨_,_,_,_,_,_,_,rfl,TJ.out⟩
end Pg
end Go.Proofs.YtbhnbcadgmagpaaGreatDoor
