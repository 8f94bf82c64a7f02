import Derived.Test.YtbhnbcadgmagpaaGreatDoorBig
import Derived.Test.YtbhnbcadgmagpaaGreatDoorJ1
import Derived.Test.YtbhnbcadgmagpaaGreatDoorJ17
import Derived.Test.YtbhnbcadgmagpaaGreatDoorJ15
set_option linter.unusedVariables false
set_option linter.unusedSimpArgs false
set_option maxHeartbeats 4000000
set_option maxRecDepth 100000
namespace Go.Proofs.YtbhnbcadgmagpaaGreatDoor
open Go.ChangeShapes Go.WideShapes Go.ChangeAt Go.RowKit Go.aN Go.Lib
namespace Pg
open bg (Ms af bq ay aP ag L4 aH aq ai bD)
open aE (R)
open ak (Ke)
open Me (ptr)
open Tb (UW TM Fw)
section
variable {b:Bs}{W:World}{S:Sh}{r:Rn}
theorem Mo(k:Ke)(ks:List Ke):rD (k::ks)=[.int .u32 (k.a:Int),.int .u32 (k.b:Int),.int .u16 (k.p:Int),.int .u16 (k.q:Int),.int .u8 (k.r:Int)]++rD ks:=rfl
theorem Mq(k:Ke)(ks:List Ke)(j:Nat):(rD (k::ks))[5+j]? = (rD ks)[j]?:=by
 rw[Mo,List.getElem?_append_right zs];congr 1;simp
theorem YR.key{Om Ot K:Nat->Prop}{pv lv kv:Value}(H:YR b Om Ot K pv lv kv S r W)(k:Ke):YR b Om Ot K pv lv kv S { r with k:=k } (((((W.setCell ⟨b.g,25,none⟩ (.int .u32 (k.a:Int))).setCell ⟨b.g,26,none⟩ (.int .u32 (k.b:Int))).setCell ⟨b.g,27,none⟩ (.int .u16 (k.p:Int))).setCell ⟨b.g,28,none⟩ (.int .u16 (k.q:Int))).setCell ⟨b.g,29,none⟩ (.int .u8 (k.r:Int))):=by
 have h0:=H.set (r':={ r with k:={ r.k with a:=k.a } }) 25 (.int .u32 (k.a:Int)) rfl H.n_ H.oq;have h1:=h0.set (r':={ r with k:={ r.k with a:=k.a,b:=k.b } }) 26 (.int .u32 (k.b:Int)) rfl h0.n_ h0.oq;have h2:=h1.set (r':={ r with k:={ r.k with a:=k.a,b:=k.b,p:=k.p } }) 27 (.int .u16 (k.p:Int)) rfl h1.n_ h1.oq;have h3:=h2.set (r':={ r with k:={ r.k with a:=k.a,b:=k.b,p:=k.p,q:=k.q } }) 28 (.int .u16 (k.q:Int)) rfl h2.n_ h2.oq;have h4:=h3.set (r':={ r with k:={ r.k with a:=k.a,b:=k.b,p:=k.p,q:=k.q,r:=k.r } }) 29 (.int .u8 (k.r:Int)) rfl h3.n_ h3.oq;exact h4
theorem Mr(W:World)(g:Nat)(k:Ke):ar (λj=>j=g) W (((((W.setCell ⟨g,25,none⟩ (.int .u32 (k.a:Int))).setCell ⟨g,26,none⟩ (.int .u32 (k.b:Int))).setCell ⟨g,27,none⟩ (.int .u16 (k.p:Int))).setCell ⟨g,28,none⟩ (.int .u16 (k.q:Int))).setCell ⟨g,29,none⟩ (.int .u8 (k.r:Int))):=((((((ar.refl (λj=>j=g) W).setCell (p:=⟨g,25,none⟩) (.inl rfl) (.int .u32 (k.a:Int))).setCell (p:=⟨g,26,none⟩) (.inl rfl) (.int .u32 (k.b:Int))).setCell (p:=⟨g,27,none⟩) (.inl rfl) (.int .u16 (k.p:Int))).setCell (p:=⟨g,28,none⟩) (.inl rfl) (.int .u16 (k.q:Int))).setCell (p:=⟨g,29,none⟩) (.inl rfl) (.int .u8 (k.r:Int)))
theorem nh(H:Y b S r W):Calls Tryz.prog 117 #[ptr b.g] W (Yd b U S (bQ r)):=by
 have H0:=hid H;obtain⟨Om,Ot,Kf,pv,lv,kv,xZ⟩:=H;obtain⟨⟨A,c,hkv,hcb,hcell⟩,hok⟩:=xZ.oq;subst hkv
 cases hks:r.ks with
 | nil =>
  rw[show bQ r=goto r .finish by unfold bQ;rw[hks]]
  have q0:=xZ.run.cell 24 _ rfl
  rw[show r.ks.length=0 by rw[hks];rfl]at q0
  clear xZ hcell hok hks hcb
  go_in
  go_wp2_with fail
  go_at_call 37
  refine(aB H0.out .finish _ rfl).mono ?_
  rintro e w1 ⟨rfl,hy⟩
  have H1:=hid hy
  clear hy q0
  go_wp2_with fail
  go_end0
  exact⟨rfl,H1.out⟩
 | cons k ks =>
  have hle:r.ks.length=ks.length+1:=by rw[hks];rfl
  rw[hle]at xZ hcb
  rw[hks]at hcell hok
  obtain⟨gk,off,rfl,hK,hlt,hc⟩:=hcell zs
  rw[show bQ r = { r with k:=k,ks:=ks,at_:=.visit } by unfold bQ;rw[hks]]
  have b0:W.cell? ⟨gk,off,none⟩=some (.int .u32 (k.a:Int)):=hc 0 _ rfl
  have b1:W.cell? ⟨gk,off+1,none⟩=some (.int .u32 (k.b:Int)):=hc 1 _ rfl
  have b2:W.cell? ⟨gk,off+2,none⟩=some (.int .u16 (k.p:Int)):=hc 2 _ rfl
  have b3:W.cell? ⟨gk,off+3,none⟩=some (.int .u16 (k.q:Int)):=hc 3 _ rfl
  have b4:W.cell? ⟨gk,off+4,none⟩=some (.int .u8 (k.r:Int)):=hc 4 _ rfl
  have q0:=xZ.run.cell 24 _ rfl
  obtain⟨A2,Q6⟩:∃a,(if c=1 then(⟨gk,off,none⟩:Addr)else⟨gk,off+5,none⟩)=a:=⟨_,rfl⟩
  have HA2:Hid ((if c=1 then(some ⟨gk,off,none⟩:Option Addr)else some ⟨gk,off+5,none⟩)=some A2):=by show _=_;rw[← Q6];split <;> rfl
  have YM:Hid (∀w',ar (λj=>j=b.g) W w'->Kv w' Kf (.slice (some A2) ks.length (c - 1)) ks):=λw' ho=>by
   refine⟨⟨some A2,c - 1,rfl,by omega,λhn=>?_⟩,λx hx=>hok x (List.mem_cons_of_mem _ hx)⟩;have hc1:c≠1:=zo;rw[if_neg hc1]at Q6;subst Q6;have hne:gk≠b.g:=(xZ.dk gk hK).2.1;refine⟨gk,off+5,rfl,hK,Nat.lt_of_lt_of_le hlt ho.size,λj u hu=>?_⟩;rw[← Mq k]at hu;rw[Nat.add_assoc];exact(ho.cell (p:=⟨gk,off+(5+j),none⟩) hlt hne).trans (hc _ u hu)
  have Sg:=hid xZ
  have h1:(1:Int)<=(c:Int):=zo
  have aK:ks.length+1<=c:=hcb.1
  have aZ:c<=9223372036854775807:=hcb.2
  have Gy:=hid hlt
  have qZ:Hid (gk≠b.g):=(xZ.dk gk hK).2.1
  clear xZ hcell hok hks hc hlt hK Q6 hcb hle H0
  go_in
  go_wp2_with fail
  refine iz (S:=λw'=>w'.cell? ⟨b.g,24,none⟩=some (.slice (some ⟨gk,off,none⟩) (ks.length+1) c)/\w'.cell? ⟨gk,off,none⟩=some (.int .u32 (k.a:Int))/\w'.cell? ⟨gk,off+1,none⟩=some (.int .u32 (k.b:Int))/\w'.cell? ⟨gk,off+2,none⟩=some (.int .u16 (k.p:Int))/\w'.cell? ⟨gk,off+3,none⟩=some (.int .u16 (k.q:Int))/\w'.cell? ⟨gk,off+4,none⟩=some (.int .u8 (k.r:Int))) 18 zk (⟨q0,b0,b1,b2,b3,b4⟩) (λhH=>?_)
  refine eS 0 10 hH ?_
  refine eS 1 11 hH ?_
  refine eS 2 12 hH ?_
  refine eS 3 13 hH ?_
  refine eS 4 14 hH ?_
  refine eS 5 15 hH ?_
  try simp only[zq]
  refine dU (i:=6) (oi:=⟨some 16,_,_,_,_,_⟩) (v:=?v7) rfl zk zk zk zk zh (Or.inl ⟨rfl,?c7⟩) hH ?r7
  case c7=>(intro w' hS;go_simp;(try with_reducible rfl))
  try simp only[zq]
  refine dU (i:=7) (oi:=⟨some 17,_,_,_,_,_⟩) (v:=?v8) rfl zk zk zk zk zh (Or.inl ⟨rfl,?c8⟩) hH ?r8
  case c8=>(intro w' hS;obtain⟨x0,x1,x2,x3,x4,x5⟩:=hS;go_simp;(try with_reducible rfl))
  try simp only[zq]
  refine eS 8 18 hH ?_
  refine eS 9 19 hH ?_
  refine eS 10 20 hH ?_
  refine eS 11 21 hH ?_
  try simp only[zq]
  refine dU (i:=12) (oi:=⟨some 22,_,_,_,_,_⟩) (v:=?v13) rfl zk zk zk zk zh (Or.inl ⟨rfl,?c13⟩) hH ?r13
  case c13=>(intro w' hS;have i1:(1:Int)<=(ks.length:Int)+1:=zo;go_simp;(try rw[if_pos i1]);(try rw[HA2.out]);(try rfl))
  try simp only[zq]
  refine eS 13 23 hH ?_
  refine eS 14 24 hH ?_
  try simp only[zq]
  refine bu (rs:=[15]) zk zs (eW.cons rfl (λK hK=>?_) (eW.nil))
  obtain⟨W1,oo⟩:∃VV,W.drew=VV:=⟨_,rfl⟩
  have H1:Hid (YR b Om Ot Kf pv lv (.slice (some ⟨gk,off,none⟩) (ks.length+1) c) S r W1):=oo▸hid (Sg.out.next (Below.refl _ W).drew)
  have FZ:Hid (ar (λj=>j=b.g) W W1):=oo▸hid ((ar.refl (λj=>j=b.g) W).next (Below.refl _ W).drew)
  rw[oo]at hH ⊢
  clear oo Sg
  have f0:=H1.out.run.frozen 25
  have c0:=H1.out.run.cell 25 _ rfl
  have f1:=H1.out.run.frozen 26
  have c1:=H1.out.run.cell 26 _ rfl
  have f2:=H1.out.run.frozen 27
  have c2:=H1.out.run.cell 27 _ rfl
  have f3:=H1.out.run.frozen 28
  have c3:=H1.out.run.cell 28 _ rfl
  have f4:=H1.out.run.frozen 29
  have c4:=H1.out.run.cell 29 _ rfl
  go_simp
  clear f0 c0 f1 c1 f2 c2 f3 c3 f4 c4
  have H2:=hid (H1.out.key k)
  have zj:=hid (Mr W1 b.g k)
  refine hK.out _ _ (⟨H2.out.run.cell 24 _ rfl,(zj.out.cell (p:=⟨gk,off,none⟩) (Nat.lt_of_lt_of_le Gy.out FZ.out.size) qZ.out).trans hH.2.1,(zj.out.cell (p:=⟨gk,off+1,none⟩) (Nat.lt_of_lt_of_le Gy.out FZ.out.size) qZ.out).trans hH.2.2.1,(zj.out.cell (p:=⟨gk,off+2,none⟩) (Nat.lt_of_lt_of_le Gy.out FZ.out.size) qZ.out).trans hH.2.2.2.1,(zj.out.cell (p:=⟨gk,off+3,none⟩) (Nat.lt_of_lt_of_le Gy.out FZ.out.size) qZ.out).trans hH.2.2.2.2.1,(zj.out.cell (p:=⟨gk,off+4,none⟩) (Nat.lt_of_lt_of_le Gy.out FZ.out.size) qZ.out).trans hH.2.2.2.2.2⟩) (λhH=>?_)
  clear hK K
  have YN:=hid (FZ.out.trans zj.out λj h=>.inl h)
  clear H1 FZ zj
  generalize (((((W1.setCell ⟨b.g,25,none⟩ (.int .u32 (k.a:Int))).setCell ⟨b.g,26,none⟩ (.int .u32 (k.b:Int))).setCell ⟨b.g,27,none⟩ (.int .u16 (k.p:Int))).setCell ⟨b.g,28,none⟩ (.int .u16 (k.q:Int))).setCell ⟨b.g,29,none⟩ (.int .u8 (k.r:Int)))=W2 at *
  try simp only[zq]
  refine ij [17] (i:=16) (oi:=⟨some 25,_,_,_,_,_⟩) (v:=?v16) rfl zk zk zk zk zh (Or.inl ⟨rfl,?c16⟩) hH ?r16
  case c16=>(intro w' _;go_simp;(try with_reducible rfl))
  try simp only[zq]
  refine eS 17 26 hH ?_
  try simp only[zq]
  refine bu (rs:=[18]) zk zs (eW.end_ rfl (λK hK=>?_))
  have f0:=H2.out.run.frozen 24
  have c0:=H2.out.run.cell 24 _ rfl
  go_simp
  clear c0 f0
  refine hK.out _ _ ?_
  clear hK K
  have H3:=hid (H2.out.set (r':={ r with k:=k,ks:=ks }) 24 (.slice (some A2) ks.length (c - 1)) rfl H2.out.n_ (YM.out _ YN.out))
  clear H2 YN YM
  try simp only[zq]
  refine gm zk ?_ _
  clear hH
  go_wp2_with fail
  go_at_call 37
  refine(aB ⟨_,_,_,_,_,_,H3.out⟩ .visit _ rfl).mono ?_
  rintro e w4 ⟨rfl,hy⟩
  have H4:=hid hy
  clear hy H3
  go_wp2_with fail
  go_end0
  exact⟨rfl,H4.out⟩
theorem Cm(H:Y b S r W)(hr:Rm 9 S)(hF:Fit b.C S r)(he:Env b.w0):Calls Tryz.prog 116 #[ptr b.g] W (Yd b U ((dx S r).1) ((dx S r).2)):=by
 have HR:=hid hr;have HF:=hid hF;have HE:=hid he;have H0:=hid H;have HW:=hid (H.word 0)
 cases hz:eA (dK S r)
 ·rw[show(dx S r).1=gX S r 0 from rfl,show(dx S r).2=bQ (dK S r) by unfold dx;rw[hz];rfl];have HZ:Hid (eA (dK S r)=false):=hz;clear hz;clear H hr hF he;go_in;go_wp2_with fail;refine(bF H0.out (HR.out.mono zo)).mono ?_;rintro e w1 ⟨rfl,hy⟩;have H1:=hid hy;clear hy ;go_wp2_with fail;have HO:=hid (fV H1.out HW.out HF.out.wf HE.out);rw[HZ.out]at HO;refine(HO.out).mono ?_;rintro e w2 ⟨rfl,hy⟩;have H2:=hid hy;clear hy ;go_wp2_with fail;refine(nh H2.out).mono ?_;rintro e w3 ⟨rfl,hy⟩;have H3:=hid hy;clear hy ;go_wp2_with fail;go_end0;exact⟨rfl,H3.out⟩
 ·rw[show(dx S r).1=gX S r 0 from rfl,show(dx S r).2=goto (dK S r) .kill by unfold dx;rw[hz];rfl];have HZ:Hid (eA (dK S r)=true):=hz;clear hz;clear H hr hF he;go_in;go_wp2_with fail;refine(bF H0.out (HR.out.mono zo)).mono ?_;rintro e w1 ⟨rfl,hy⟩;have H1:=hid hy;clear hy ;go_wp2_with fail;have HO:=hid (fV H1.out HW.out HF.out.wf HE.out);rw[HZ.out]at HO;refine(HO.out).mono ?_;rintro e w2 ⟨rfl,hy⟩;have H2:=hid hy;clear hy ;go_wp2_with fail;refine(aB H2.out .kill _ rfl).mono ?_;rintro e w3 ⟨rfl,hy⟩;have H3:=hid hy;clear hy ;go_wp2_with fail;go_end0;exact⟨rfl,H3.out⟩
theorem sR(H:Y b S r W):Calls Tryz.prog 77 #[ptr b.g] W (Yd b U S (bQ { r with n:=IntKind.i64.wrap (r.n+1) })):=by
 have H0:=hid H;obtain⟨z,I4⟩:∃z,IntKind.i64.wrap (r.n+1)=z:=⟨_,rfl⟩;rw[I4];have HS:=hid (H0.out.set (r':={ r with n:=z }) 9 (.int .i64 z) zf rfl rfl);have q0:=H0.out.frozen 9;have rF:=H0.out.cell 9 (.int .i64 r.n) zf;clear H;go_in;go_wp2_with fail;refine(nh HS.out).mono ?_;rintro e w1 ⟨rfl,hy⟩;have H1:=hid hy;clear hy rF q0 I4;go_wp2_with fail;go_end0;exact⟨rfl,H1.out⟩
theorem Ed(H:Y b S r W)(hr:Rm 9 S)(hF:Fit b.C S r)(he:Env b.w0):Calls Tryz.prog 172 #[ptr b.g] W (Yd b U ((fu b.C S r).1) ((fu b.C S r).2)):=by
 have HR:=hid hr;have HF:=hid hF;have HE:=hid he;have H0:=hid H;have hs1:=hF.st;have hs2:=hF.cn;by_cases hz:r.st+1=b.C.n
 ·rw[show fu b.C S r=jJ (iy S r r.st) { r with st:=r.st+1 } by unfold fu;rw[if_pos hz]]
  have HZ:Hid ((((r.st:Int)+1)==(b.C.n:Int))=true):=by show _=_;rw[← hz];simp
  clear hz;clear H hr hF he;have y0:=H0.out.cell 23 (.int .i64 (r.st:Int)) zf;go_in;go_wp2_with fail;refine(mE H0.out (HR.out.mono zo) (r.st:Int)).mono ?_;rintro e w1 ⟨rfl,hy⟩;have H1:=hid hy;clear hy y0;have H2:=hid (H1.out.set (r':={ r with st:=r.st+1 }) 23 (.int .i64 ((r.st:Int)+1)) zf rfl rfl);have f0:=H1.out.frozen 23;have c0:w1.cell? ⟨b.g,23,none⟩=some (.int .i64 (r.st:Int)):=H1.out.cell 23 _ zf;go_wp2_with fail;obtain⟨w2,uO⟩:∃VV,w1.setCell ⟨b.g,23,none⟩ (.int .i64 ((r.st:Int)+1))=VV:=⟨_,rfl⟩;rw[uO]at H2 ⊢;clear uO f0 c0 H1;refine wp_region_held_drew (S:=λw'=>w'.cell? ⟨b.g,23,none⟩=some (.int .i64 ((r.st:Int)+1))/\w'.cell? ⟨b.g,0,none⟩=some (ptr b.B)/\w'.cell? ⟨b.B,0,none⟩=some (.int .i64 (b.C.n:Int))) zk (⟨H2.out.drew.cell 23 _ zf,H2.out.drew.cell 0 _ zf,H2.out.drew.shared 0 _ zg⟩) (λhH=>?_);refine zr 0 15 hH ?_;refine zr 1 16 hH ?_;refine zr 2 17 hH ?_;refine zr 3 18 hH ?_;refine zr 4 19 hH ?_;refine zr 5 20 hH ?_;refine zr 6 21 hH ?_;refine zr 7 22 hH ?_;refine zr 8 23 hH ?_;refine zr 9 24 hH ?_;refine zr 10 25 hH ?_;refine zr 11 26 hH ?_;refine zr 12 27 hH ?_
  try simp only[zq]
  refine wpAnyH_done zk ?_ _;have H3:=hid H2.out.drew;clear H2;obtain⟨w3,EW⟩:∃VV,w2.drew=VV:=⟨_,rfl⟩;rw[EW]at hH H3 ⊢;clear hH EW;have q1:=HZ.out;go_wp2_with fail;refine(gD H3.out ((HR.out.free (r.st:Int)).mono zo)).mono ?_;rintro e w4 ⟨rfl,hy⟩;have H4:=hid hy;clear hy q1;go_wp2_with fail;go_end0;exact⟨rfl,H4.out⟩
 ·rw[show fu b.C S r=(iy S r r.st,j4 { r with st:=r.st+1 } ((r.st+1:Nat):Int) .take) by unfold fu;rw[if_neg hz]]
  have HZ:Hid ((((r.st:Int)+1)==(b.C.n:Int))=false):=by show _=_;simp;omega
  clear hz;clear H hr hF he;have y0:=H0.out.cell 23 (.int .i64 (r.st:Int)) zf;go_in;go_wp2_with fail;refine(mE H0.out (HR.out.mono zo) (r.st:Int)).mono ?_;rintro e w1 ⟨rfl,hy⟩;have H1:=hid hy;clear hy y0;have H2:=hid (H1.out.set (r':={ r with st:=r.st+1 }) 23 (.int .i64 ((r.st:Int)+1)) zf rfl rfl);have f0:=H1.out.frozen 23;have c0:w1.cell? ⟨b.g,23,none⟩=some (.int .i64 (r.st:Int)):=H1.out.cell 23 _ zf;go_wp2_with fail;obtain⟨w2,uO⟩:∃VV,w1.setCell ⟨b.g,23,none⟩ (.int .i64 ((r.st:Int)+1))=VV:=⟨_,rfl⟩;rw[uO]at H2 ⊢;clear uO f0 c0 H1;refine wp_region_held_drew (S:=λw'=>w'.cell? ⟨b.g,23,none⟩=some (.int .i64 ((r.st:Int)+1))/\w'.cell? ⟨b.g,0,none⟩=some (ptr b.B)/\w'.cell? ⟨b.B,0,none⟩=some (.int .i64 (b.C.n:Int))) zk (⟨H2.out.drew.cell 23 _ zf,H2.out.drew.cell 0 _ zf,H2.out.drew.shared 0 _ zg⟩) (λhH=>?_);refine zr 0 15 hH ?_;refine zr 1 16 hH ?_;refine zr 2 17 hH ?_;refine zr 3 18 hH ?_;refine zr 4 19 hH ?_;refine zr 5 20 hH ?_;refine zr 6 21 hH ?_;refine zr 7 22 hH ?_;refine zr 8 23 hH ?_;refine zr 9 24 hH ?_;refine zr 10 25 hH ?_;refine zr 11 26 hH ?_;refine zr 12 27 hH ?_
  try simp only[zq]
  refine wpAnyH_done zk ?_ _;have H3:=hid H2.out.drew;clear H2;obtain⟨w3,EW⟩:∃VV,w2.drew=VV:=⟨_,rfl⟩;rw[EW]at hH H3 ⊢;clear hH EW;have q1:=HZ.out;have y0:w3.cell? ⟨b.g,23,none⟩=some (.int .i64 ((r.st:Int)+1)):=H3.out.cell 23 _ zf;go_wp2_with fail;refine(fA H3.out (((r.st+1:Nat):Int)) .take _ rfl).mono ?_;rintro e w4 ⟨rfl,hy⟩;have H4:=hid hy;clear hy q1;go_wp2_with fail;go_end0;exact⟨rfl,H4.out⟩
end
end Pg
end Go.Proofs.YtbhnbcadgmagpaaGreatDoor
namespace Go.Proofs.YtbhnbcadgmagpaaGreatDoor
open Go.ChangeShapes Go.WideShapes Go.ChangeAt Go.RowKit Go.aN Go.Lib
namespace Pg
open bg (Ms af bq ay aP ag L4 aH aq ai bD)
open aE (R)
open ak (Ke)
open Me (ptr)
open Tb (UW TM Fw)
section
variable {b:Bs}{W:World}{S:Sh}{r:Rn}
theorem Mt(H:Y b S r W)(hr:Rm 0 S)(hk:r.k.Ok):Calls Tryz.prog 170 #[ptr b.tb,.int .i64 r.t,.agg #[.int .u32 (r.k.a:Int),.int .u32 (r.k.b:Int),.int .u16 (r.k.p:Int),.int .u16 (r.k.q:Int),.int .u8 (r.k.r:Int)]] W λe w'=>(∃ve,e = .returned (.int .i64 ve))/\Y b (uA b.C S r) r w':=by
 cases hh:hasB b.C S r with
 | false =>
  rw[show uA b.C S r=S by unfold uA;rw[hh];rfl]
  refine(H.table (fs':=S.fs) (λw Om Ot h=>Tb.Gn h r.t r.k hk _ rfl hh)).mono ?_
  rintro e w' ⟨rfl,h⟩
  exact⟨⟨_,rfl⟩,h⟩
 | true =>
  rw[show uA b.C S r = { S with ms:=ai S.ms r.t 6 ((Tb.gZ b.C.n r.k:Nat):Int),fs:=bJ.drop r.k S.fs } by unfold uA;rw[hh];rfl]
  cases hf:bJ.find r.k S.fs with
  | none =>
   refine(H.table (λw Om Ot h=>Tb.uF h hr.l r.t r.k hk 0 false false 15 _ rfl hh (.inr ⟨hf,rfl,rfl,rfl,rfl⟩))).mono ?_
   rintro e w' ⟨rfl,h⟩
   exact⟨⟨_,rfl⟩,h⟩
  | some f =>
   refine(H.table (λw Om Ot h=>Tb.uF h hr.l r.t r.k hk f.x f.dn true 0 _ rfl hh (.inl ⟨f,hf,rfl,rfl,rfl,rfl⟩))).mono ?_
   rintro e w' ⟨rfl,h⟩
   exact⟨⟨_,rfl⟩,h⟩
theorem Mu(H:Y b S r W)(hr:Rm 9 S)(hF:Fit b.C S r)(he:Env b.w0)(hq:r.q=1\/jv r.q=true):Calls Tryz.prog 115 #[ptr b.g] W (Yd b U ((jw b.C S r).1) ((jw b.C S r).2)):=by
 have HR:=hid hr;have HF:=hid hF;have HE:=hid he;have H0:=hid H;have HN:=hid Ko
 cases hz:ay S.ms r.x r.wf
 ·rcases hq with hq | hq
  ·rw[show jw b.C S r=(fG S r r.x r.wf gl,goto r .again) by unfold jw;rw[hz,show jv r.q=false by rw[hq];rfl];rfl]
   have HQ:Hid (j6 r.q=pu 67):=by show _=_;unfold j6;rw[if_pos hq]
   have HZ:Hid (ay S.ms r.x r.wf=false):=hz;clear hz hq;clear H hr hF he;go_in;go_wp2_with fail;refine(KG _ (H0.out.env HE.out)).mono ?_;rintro e w1 ⟨rfl,hy⟩;have H1:=hid (H0.out.next hy);clear hy H0;go_wp2_with fail;have gT:=hid (gM H1.out (HR.out.mono zo) _ HN.out);rw[HZ.out]at gT;refine gT.out.mono ?_;rintro e w2 ⟨rfl,hy⟩;have H2:=hid hy;clear hy gT H1;have q0:w2.cell? ⟨b.g,21,none⟩=some (j6 r.q):=H2.out.cell 21 _ zf;rw[HQ.out]at q0;go_wp2_with fail;refine(aB H2.out .again _ rfl).mono ?_;rintro e w4 ⟨rfl,hy⟩;have H4:=hid hy;clear hy
   (try clear q0)
   go_wp2_with fail;go_end0;exact⟨rfl,H4.out⟩
  ·rw[show jw b.C S r=(fG S r r.x r.wf gl,goto r .visit) by unfold jw;rw[hz,hq];rfl]
   have HQ:Hid (j6 r.q=pu 76):=by show _=_;unfold j6;rw[if_neg (by intro e;rw[e]at hq;cases hq),hq];rfl
   have HZ:Hid (ay S.ms r.x r.wf=false):=hz;clear hz hq;clear H hr hF he;go_in;go_wp2_with fail;refine(KG _ (H0.out.env HE.out)).mono ?_;rintro e w1 ⟨rfl,hy⟩;have H1:=hid (H0.out.next hy);clear hy H0;go_wp2_with fail;have gT:=hid (gM H1.out (HR.out.mono zo) _ HN.out);rw[HZ.out]at gT;refine gT.out.mono ?_;rintro e w2 ⟨rfl,hy⟩;have H2:=hid hy;clear hy gT H1;have q0:w2.cell? ⟨b.g,21,none⟩=some (j6 r.q):=H2.out.cell 21 _ zf;rw[HQ.out]at q0;go_wp2_with fail;refine(aB H2.out .visit _ rfl).mono ?_;rintro e w4 ⟨rfl,hy⟩;have H4:=hid hy;clear hy
   (try clear q0)
   go_wp2_with fail;go_end0;exact⟨rfl,H4.out⟩
 ·rw[show jw b.C S r=(uA b.C (fG S r r.x r.wf gl) r,goto r .less) by unfold jw;rw[hz];rfl];have HZ:Hid (ay S.ms r.x r.wf=true):=hz;clear hz hq;clear H hr hF he;go_in;go_wp2_with fail;refine(KG _ (H0.out.env HE.out)).mono ?_;rintro e w1 ⟨rfl,hy⟩;have H1:=hid (H0.out.next hy);clear hy H0;go_wp2_with fail;have gT:=hid (gM H1.out (HR.out.mono zo) _ HN.out);rw[HZ.out]at gT;refine gT.out.mono ?_;rintro e w2 ⟨rfl,hy⟩;have H2:=hid hy;clear hy gT H1;go_wp2_with fail;refine wp_region_held_drew (S:=λw'=>w'.cell? ⟨b.g,0,none⟩=some (ptr b.B)/\w'.cell? ⟨b.B,19,none⟩=some (ptr b.tb)/\w'.cell? ⟨b.g,1,none⟩=some (.int .i64 r.t)/\w'.cell? ⟨b.g,25,none⟩=some (.int .u32 (r.k.a:Int))/\w'.cell? ⟨b.g,26,none⟩=some (.int .u32 (r.k.b:Int))/\w'.cell? ⟨b.g,27,none⟩=some (.int .u16 (r.k.p:Int))/\w'.cell? ⟨b.g,28,none⟩=some (.int .u16 (r.k.q:Int))/\w'.cell? ⟨b.g,29,none⟩=some (.int .u8 (r.k.r:Int))) zk (⟨H2.out.drew.cell 0 (ptr b.B) zf,H2.out.drew.shared 19 (ptr b.tb) zg,H2.out.drew.cell 1 (.int .i64 r.t) zf,H2.out.drew.cell 25 (.int .u32 (r.k.a:Int)) zf,H2.out.drew.cell 26 (.int .u32 (r.k.b:Int)) zf,H2.out.drew.cell 27 (.int .u16 (r.k.p:Int)) zf,H2.out.drew.cell 28 (.int .u16 (r.k.q:Int)) zf,H2.out.drew.cell 29 (.int .u8 (r.k.r:Int)) zf⟩) (λhH=>?_);refine zr 0 12 hH ?_;refine zr 1 13 hH ?_;refine zr 2 14 hH ?_;refine zr 3 15 hH ?_;refine zr 4 16 hH ?_;refine zr 5 17 hH ?_;refine zr 6 18 hH ?_;refine zr 7 19 hH ?_;refine zr 8 20 hH ?_;refine zr 9 21 hH ?_;refine zr 10 22 hH ?_;refine zr 11 23 hH ?_;refine zr 12 24 hH ?_;refine zr 13 25 hH ?_;refine zr 14 26 hH ?_
  try simp only[zq]
  refine zrd 15 (λK hK=>?_);go_simp;refine(Mt H2.out.drew ((HR.out.sw r.x r.wf gl).mono zo) HF.out.k).mono ?_;rintro e w3 ⟨⟨ve,rfl⟩,hy⟩;refine hK.out _ _ (⟨hy.cell 0 (ptr b.B) zf,hy.shared 19 (ptr b.tb) zg,hy.cell 1 (.int .i64 r.t) zf,hy.cell 25 (.int .u32 (r.k.a:Int)) zf,hy.cell 26 (.int .u32 (r.k.b:Int)) zf,hy.cell 27 (.int .u16 (r.k.p:Int)) zf,hy.cell 28 (.int .u16 (r.k.q:Int)) zf,hy.cell 29 (.int .u8 (r.k.r:Int)) zf⟩) (λhH=>?_);clear hK K;have H3:=hid hy;clear hy H2
  try simp only[zq]
  refine wpAnyH_done zk ?_ _;clear hH;go_wp2_with fail;refine(aB H3.out .less _ rfl).mono ?_;rintro e w4 ⟨rfl,hy⟩;have H4:=hid hy;clear hy
  (try clear q0)
  go_wp2_with fail;go_end0;exact⟨rfl,H4.out⟩
theorem IE(H:Y b S r W)(hr:Rm 9 S)(hF:Fit b.C S r)(he:Env b.w0)(hq:r.q=1\/jv r.q=true):Calls Tryz.prog 223 #[ptr b.g] W (Yd b U ((fb S r).1) ((fb S r).2)):=by
 have HR:=hid hr;have HF:=hid hF;have HE:=hid he;have H0:=hid H;have HN:=hid (yK hF.wg)
 cases hz:ay S.ms 0 r.wg
 ·rw[show fb S r=(fG S r 0 r.wg (cS r.wg),goto r .less) by unfold fb;rw[hz];rfl];have HZ:Hid (ay S.ms 0 r.wg=false):=hz;clear hz hq;have y0:=H0.out.cell 35 (.int .u64 r.wg) zf;clear H hr hF he;go_in;go_wp2_with fail;refine(yQ HF.out.wg _ (H0.out.env HE.out)).mono ?_;rintro e w1 ⟨rfl,hy⟩;have H1:=hid (H0.out.next hy);clear hy H0 y0;go_wp2_with fail;have gT:=hid (cf H1.out (HR.out.mono zo) _ HN.out);rw[HZ.out]at gT;refine gT.out.mono ?_;rintro e w2 ⟨rfl,hy⟩;have H2:=hid hy;clear hy gT H1;go_wp2_with fail;refine(aB H2.out .less _ rfl).mono ?_;rintro e w4 ⟨rfl,hy⟩;have H4:=hid hy;clear hy
  (try clear q0)
  go_wp2_with fail;go_end0;exact⟨rfl,H4.out⟩
 ·have QX:∀S',Hid (Fit b.C S' r->True):=λ_=>λ_=>trivial;clear QX
  rcases hq with hq | hq
  ·rw[show fb S r=(say (fG S r 0 r.wg (cS r.wg)) r 4 r.k 0 0,goto r .absent) by unfold fb kJ;rw[hz,hq];rfl]
   have HQ:Hid (kM r.q=pu 68):=by show _=_;unfold kM;rw[hq];rfl
   have jx:Hid ((r.q==4)=false):=by show _=_;rw[hq];rfl
   have HZ:Hid (ay S.ms 0 r.wg=true):=hz;clear hz hq;have y0:=H0.out.cell 35 (.int .u64 r.wg) zf;clear H hr hF he;go_in;go_wp2_with fail;refine(yQ HF.out.wg _ (H0.out.env HE.out)).mono ?_;rintro e w1 ⟨rfl,hy⟩;have H1:=hid (H0.out.next hy);clear hy H0 y0;go_wp2_with fail;have gT:=hid (cf H1.out (HR.out.mono zo) _ HN.out);rw[HZ.out]at gT;refine gT.out.mono ?_;rintro e w2 ⟨rfl,hy⟩;have H2:=hid hy;clear hy gT H1;have k0:=H2.out.cell 25 (.int .u32 (r.k.a:Int)) zf;have k1:=H2.out.cell 26 (.int .u32 (r.k.b:Int)) zf;have k2:=H2.out.cell 27 (.int .u16 (r.k.p:Int)) zf;have k3:=H2.out.cell 28 (.int .u16 (r.k.q:Int)) zf;have k4:=H2.out.cell 29 (.int .u8 (r.k.r:Int)) zf;have k5:(w2.alloc (.cells #[.int .i64 4,.int .i64 0,.int .i64 0,.int .u32 (r.k.a:Int),.int .u32 (r.k.b:Int),.int .u16 (r.k.p:Int),.int .u16 (r.k.q:Int),.int .u8 (r.k.r:Int),.int .i64 0,.int .i64 0] 89)).cell? ⟨b.g,20,none⟩=some (.bool (r.q==4)):=(H2.out.alloc _).cell 20 _ zf;rw[jx.out]at k5;have Qe:=hid (H2.out.alloc (.cells #[.int .i64 4,.int .i64 0,.int .i64 0,.int .u32 (r.k.a:Int),.int .u32 (r.k.b:Int),.int .u16 (r.k.p:Int),.int .u16 (r.k.q:Int),.int .u8 (r.k.r:Int),.int .i64 0,.int .i64 0] 89));go_wp2_with fail;refine(cD Qe.out ((HR.out.sw 0 r.wg (cS r.wg)).mono zo) 4 r.k 0 0).mono ?_;rintro e w3 ⟨rfl,hy⟩;have H3:=hid hy;clear hy k0 k1 k2 k3 k4 k5 Qe H2;have q0:w3.cell? ⟨b.g,22,none⟩=some (kM r.q):=H3.out.cell 22 _ zf;rw[HQ.out]at q0;go_wp2_with fail;refine(Ds H3.out).mono ?_;rintro e w4 ⟨rfl,hy⟩;have H4:=hid hy;clear hy
   (try clear q0)
   go_wp2_with fail;go_end0;exact⟨rfl,H4.out⟩
  ·by_cases h4:r.q=4
   ·replace hq:=h4;rw[show fb S r=(say (fG S r 0 r.wg (cS r.wg)) r 4 r.k 0 1,bQ { r with n:=IntKind.i64.wrap (r.n+1) }) by unfold fb kJ;rw[hz,hq];rfl]
    have HQ:Hid (kM r.q=pu 77):=by show _=_;unfold kM;rw[hq];rfl
    have jx:Hid ((r.q==4)=true):=by show _=_;rw[hq];rfl
    have HZ:Hid (ay S.ms 0 r.wg=true):=hz;clear hz hq;have y0:=H0.out.cell 35 (.int .u64 r.wg) zf;clear H hr hF he;go_in;go_wp2_with fail;refine(yQ HF.out.wg _ (H0.out.env HE.out)).mono ?_;rintro e w1 ⟨rfl,hy⟩;have H1:=hid (H0.out.next hy);clear hy H0 y0;go_wp2_with fail;have gT:=hid (cf H1.out (HR.out.mono zo) _ HN.out);rw[HZ.out]at gT;refine gT.out.mono ?_;rintro e w2 ⟨rfl,hy⟩;have H2:=hid hy;clear hy gT H1;have k0:=H2.out.cell 25 (.int .u32 (r.k.a:Int)) zf;have k1:=H2.out.cell 26 (.int .u32 (r.k.b:Int)) zf;have k2:=H2.out.cell 27 (.int .u16 (r.k.p:Int)) zf;have k3:=H2.out.cell 28 (.int .u16 (r.k.q:Int)) zf;have k4:=H2.out.cell 29 (.int .u8 (r.k.r:Int)) zf;have k5:(w2.alloc (.cells #[.int .i64 4,.int .i64 0,.int .i64 0,.int .u32 (r.k.a:Int),.int .u32 (r.k.b:Int),.int .u16 (r.k.p:Int),.int .u16 (r.k.q:Int),.int .u8 (r.k.r:Int),.int .i64 0,.int .i64 0] 89)).cell? ⟨b.g,20,none⟩=some (.bool (r.q==4)):=(H2.out.alloc _).cell 20 _ zf;rw[jx.out]at k5;have Qe:=hid (H2.out.alloc (.cells #[.int .i64 4,.int .i64 0,.int .i64 0,.int .u32 (r.k.a:Int),.int .u32 (r.k.b:Int),.int .u16 (r.k.p:Int),.int .u16 (r.k.q:Int),.int .u8 (r.k.r:Int),.int .i64 0,.int .i64 1] 89));go_wp2_with fail;refine(cD Qe.out ((HR.out.sw 0 r.wg (cS r.wg)).mono zo) 4 r.k 0 1).mono ?_;rintro e w3 ⟨rfl,hy⟩;have H3:=hid hy;clear hy k0 k1 k2 k3 k4 k5 Qe H2;have q0:w3.cell? ⟨b.g,22,none⟩=some (kM r.q):=H3.out.cell 22 _ zf;rw[HQ.out]at q0;go_wp2_with fail;refine(sR H3.out).mono ?_;rintro e w4 ⟨rfl,hy⟩;have H4:=hid hy;clear hy
    (try clear q0)
    go_wp2_with fail;go_end0;exact⟨rfl,H4.out⟩
   ·rw[show fb S r=(say (fG S r 0 r.wg (cS r.wg)) r 4 r.k 0 0,bQ { r with n:=IntKind.i64.wrap (r.n+1) }) by unfold fb kJ;rw[hz,if_neg h4,hq];rfl]
    have HQ:Hid (kM r.q=pu 77):=by show _=_;unfold kM;rw[if_neg (by intro e;rw[e]at hq;cases hq),hq];rfl
    have jx:Hid ((r.q==4)=false):=by show _=_;simpa using h4
    have HZ:Hid (ay S.ms 0 r.wg=true):=hz;clear hz hq h4;have y0:=H0.out.cell 35 (.int .u64 r.wg) zf;clear H hr hF he;go_in;go_wp2_with fail;refine(yQ HF.out.wg _ (H0.out.env HE.out)).mono ?_;rintro e w1 ⟨rfl,hy⟩;have H1:=hid (H0.out.next hy);clear hy H0 y0;go_wp2_with fail;have gT:=hid (cf H1.out (HR.out.mono zo) _ HN.out);rw[HZ.out]at gT;refine gT.out.mono ?_;rintro e w2 ⟨rfl,hy⟩;have H2:=hid hy;clear hy gT H1;have k0:=H2.out.cell 25 (.int .u32 (r.k.a:Int)) zf;have k1:=H2.out.cell 26 (.int .u32 (r.k.b:Int)) zf;have k2:=H2.out.cell 27 (.int .u16 (r.k.p:Int)) zf;have k3:=H2.out.cell 28 (.int .u16 (r.k.q:Int)) zf;have k4:=H2.out.cell 29 (.int .u8 (r.k.r:Int)) zf;have k5:(w2.alloc (.cells #[.int .i64 4,.int .i64 0,.int .i64 0,.int .u32 (r.k.a:Int),.int .u32 (r.k.b:Int),.int .u16 (r.k.p:Int),.int .u16 (r.k.q:Int),.int .u8 (r.k.r:Int),.int .i64 0,.int .i64 0] 89)).cell? ⟨b.g,20,none⟩=some (.bool (r.q==4)):=(H2.out.alloc _).cell 20 _ zf;rw[jx.out]at k5;have Qe:=hid (H2.out.alloc (.cells #[.int .i64 4,.int .i64 0,.int .i64 0,.int .u32 (r.k.a:Int),.int .u32 (r.k.b:Int),.int .u16 (r.k.p:Int),.int .u16 (r.k.q:Int),.int .u8 (r.k.r:Int),.int .i64 0,.int .i64 0] 89));go_wp2_with fail;refine(cD Qe.out ((HR.out.sw 0 r.wg (cS r.wg)).mono zo) 4 r.k 0 0).mono ?_;rintro e w3 ⟨rfl,hy⟩;have H3:=hid hy;clear hy k0 k1 k2 k3 k4 k5 Qe H2;have q0:w3.cell? ⟨b.g,22,none⟩=some (kM r.q):=H3.out.cell 22 _ zf;rw[HQ.out]at q0;go_wp2_with fail;refine(sR H3.out).mono ?_;rintro e w4 ⟨rfl,hy⟩;have H4:=hid hy;clear hy
    (try clear q0)
    go_wp2_with fail;go_end0;exact⟨rfl,H4.out⟩
end
end Pg
end Go.Proofs.YtbhnbcadgmagpaaGreatDoor
namespace Go.Proofs.YtbhnbcadgmagpaaGreatDoor
open Go.ChangeShapes Go.WideShapes Go.ChangeAt Go.RowKit Go.aN Go.Lib
namespace Pg
open bg (Ms af bq ay aP ag L4 aH aq ai bD)
open aE (R)
open iw (K fst j3)
open ak (Ke)
open Me (ptr)
open Tb (UW TM Fw)
section
variable {b:Bs}{W:World}{S:Sh}{r:Rn}
def YL(b:Bs)(S:Sh)(r:Rn)(v:Value)(l:List R)(W:World):Prop:=∃Om Ot Kf pv lv kv,YR b Om Ot Kf pv lv kv S r W/\Lv W Kf v l
theorem YL.next{v:Value}{l:List R}(H:YL b S r v l W){w':World}(hb:Below W.heap.size W w'):YL b S r v l w':=by
 obtain⟨Om,Ot,K,pv,lv,kv,h1,h2⟩:=H;exact⟨Om,Ot,K,pv,lv,kv,h1.next hb,h2.only (ar.aS (O:=λ_=>False) hb) λ_ _ e=>e⟩
theorem YL.y{v:Value}{l:List R}(H:YL b S r v l W):Y b S r W:=by
 obtain⟨Om,Ot,K,pv,lv,kv,h1,h2⟩:=H;exact⟨Om,Ot,K,pv,lv,kv,h1⟩
theorem Y.rules(H:Y b S r W)(i:Int):∃v,(Instr.lookup 81 (.map (some b.rm)) (.int .i64 i) false).run Tryz.prog W = .ok v W/\YL b S r v (S.rl i) W:=by
 obtain⟨Om,Ot,K,pv,lv,kv,h⟩:=H;obtain⟨v,h1,h2⟩:=h.map.look i;exact⟨v,h1,Om,Ot,K,pv,lv,kv,h,h2⟩
theorem oB(H:Y b S r W)(hr:Rm 1 S)(hF:Fit b.C S r)(he:Env b.w0):Calls Tryz.prog 147 #[ptr b.g] W λe w'=>∃v,e = .returned v/\YL b (uB b.C S r) r v (S.rl (vG r.wg)) w':=by
 have HR:=hid hr;have HF:=hid hF;have HE:=hid he;have H0:=hid H;have HL:Hid (S.ms.ls.length<=1000000000000):=(hr.mono (Nat.zero_le _)).l;have hv0:=(l8 hF.wg).v0;have hv1:=(l8 hF.wg).v1
 have HVG:Hid (0<=vG r.wg/\vG r.wg<=4096):=by show _/\_;omega
 have y0:=H.cell 35 (.int .u64 r.wg) zf;clear H hr hF he hv0 hv1;go_in;go_wp2_with fail;refine(nR HF.out.wg _ (H0.out.env HE.out)).mono ?_;rintro e w1 ⟨rfl,hy⟩;have H1:=hid (H0.out.next hy);clear hy H0 y0;have q0:=Dq (vG r.wg) (kG r.wg) (cG r.wg);go_wp2_with fail;clear q0;refine wp_region_held_drew (S:=λw'=>w'.cell? ⟨b.g,0,none⟩=some (ptr b.B)/\w'.cell? ⟨b.B,18,none⟩=some (ptr b.mb)/\w'.cell? ⟨b.g,1,none⟩=some (.int .i64 r.t)) zk (⟨H1.out.drew.cell 0 (ptr b.B) zf,H1.out.drew.shared 18 (ptr b.mb) zg,H1.out.drew.cell 1 (.int .i64 r.t) zf⟩) (λhH=>?_);refine zr 0 10 hH ?_;refine zr 1 11 hH ?_;refine zr 2 12 hH ?_;refine zr 3 13 hH ?_;refine zr 4 14 hH ?_;refine zr 5 15 hH ?_;refine zr 6 16 hH ?_;refine zr 7 17 hH ?_;refine zr 8 18 hH ?_;refine zr 9 19 hH ?_;refine zr 10 20 hH ?_;refine zr 11 21 hH ?_;refine zr 12 22 hH ?_;refine zr 13 23 hH ?_;refine zr 14 24 hH ?_;refine zr 15 25 hH ?_
 try simp only[zq]
 refine zrd 16 (λK hK=>?_);go_simp;refine(mJ H1.out.drew HF.out.cn (vG r.wg) HVG.out).mono ?_;rintro e w2 ⟨rfl,hy⟩;refine hK.out _ _ (⟨hy.cell 0 (ptr b.B) zf,hy.shared 18 (ptr b.mb) zg,hy.cell 1 (.int .i64 r.t) zf⟩) (λhH=>?_);clear hK K;have H2:=hid hy;clear hy H1
 try simp only[zq]
 refine zrd 17 (λK hK=>?_);go_simp;refine(H2.out.does (λOm h=>Me.uc h r.t ((b.C.n:Int)+vG r.wg) HL.out)).mono ?_;rintro e w3 ⟨rfl,hy⟩;refine hK.out _ _ (⟨hy.cell 0 (ptr b.B) zf,hy.shared 18 (ptr b.mb) zg,hy.cell 1 (.int .i64 r.t) zf⟩) (λhH=>?_);clear hK K;have H3:=hid hy;clear hy H2
 try simp only[zq]
 refine wpAnyH_done zk ?_ _;clear hH;obtain⟨v,hlk,Kz⟩:=H3.out.rules (vG r.wg);have H4:=hid Kz;have z0:=H3.out.cell 0 (ptr b.B) zf;have z1:=H3.out.shared 20 (.map (some b.rm)) zg
 obtain⟨A,n,c,rfl⟩:∃A n c,v = .slice A n c:=by
  obtain⟨Om,Ot,K,pv,lv,kv,_,⟨A,c,e,_⟩,_⟩:=Kz;exact⟨A,_,c,e⟩
 clear Kz H3;go_wp2_with fail;go_ret;exact⟨_,rfl,H4.out⟩
theorem x_{l:List R}{v:Value}(H:YL b S r v l W)(hF:Fit b.C S r)(he:Env b.w0):Calls Tryz.prog 146 #[ptr b.g,v] W (Yd b (.int .i64 (cU b.C r l)) S (if cU b.C r l=1 then { r with tn:=Ge r }else r)):=by
 obtain⟨A,n,c,rfl,hn,hm⟩:∃A n c,v = .slice A n c/\l.length=n/\n<=maxLen:=by
  obtain⟨Om,Ot,K,pv,lv,kv,_,⟨A,c,e,h1,h2,_⟩,_⟩:=H;exact⟨A,_,c,e,rfl,Nat.le_trans h1 h2⟩
 have HF:=hid hF;have HE:=hid he
 have zU:Hid (Calls Tryz.prog 195 #[.slice A n c,.agg #[.int .u8 (r.p.pr:Int),.int .u32 (r.p.sr:Int),.int .u32 (r.p.ds:Int),.int .u16 (r.p.sp:Int),.int .u16 (r.p.dp:Int),.int .u8 (r.p.fl:Int),.int .u8 (r.p.kd:Int)]] W λe w'=>e = .returned (.tuple #[.int .i64 (iw.rp (fst r.p l)),.bool (j3 l (fst r.p l))])/\Below W.heap.size W w'):=by
  obtain⟨Om,Ot,K,pv,lv,kv,_,h1,_,h2⟩:=H;exact Ma.Ii A n c l r.p hF.p W hn h1 h2 hm
 have Qf:=hid (λW=>Fs.uo (r.p.pr:Int) (r.p.sr:Int) (r.p.ds:Int) (r.p.sp:Int) (r.p.dp:Int) (r.p.fl:Int) (r.p.kd:Int) (by have:=hF.p.fl;omega) W);have Fj:=hid (λW he=>KH hF.wg b.C.N W he);have H0:=hid H.y;obtain⟨ix,YO⟩:∃z,iw.rp (fst r.p l)=z:=⟨_,rfl⟩;rw[YO]at zU;have k0:=H0.out.cell 12 (.int .u8 (r.p.pr:Int)) zf;have k1:=H0.out.cell 13 (.int .u32 (r.p.sr:Int)) zf;have k2:=H0.out.cell 14 (.int .u32 (r.p.ds:Int)) zf;have k3:=H0.out.cell 15 (.int .u16 (r.p.sp:Int)) zf;have k4:=H0.out.cell 16 (.int .u16 (r.p.dp:Int)) zf;have k5:=H0.out.cell 17 (.int .u8 (r.p.fl:Int)) zf;have k6:=H0.out.cell 18 (.int .u8 (r.p.kd:Int)) zf;clear H he YO hm hn
 cases ha:j3 l (fst r.p l)
 ·have hv:cU b.C r l=3:=by unfold cU;rw[ha];rfl
  rw[hv,if_neg zo];rw[ha]at zU;clear hv ha hF;go_in;go_wp2_with fail;refine zU.out.mono ?_;rintro e w1 ⟨rfl,hy⟩;have H1:=hid (H0.out.next hy);clear hy k0 k1 k2 k3 k4 k5 k6 H0 zU;go_wp2_with fail;go_ret;exact⟨rfl,H1.out⟩
 ·cases hb:J9 r
  ·have hv:cU b.C r l=4:=by unfold cU;rw[ha,hb];rfl
   rw[hv,if_neg zo];rw[ha]at zU;rw[show Fs.J9 (r.p.pr:Int) (r.p.fl:Int) (r.p.kd:Int)=false from hb]at Qf;clear hv ha hb hF;go_in;go_wp2_with fail;refine zU.out.mono ?_;rintro e w1 ⟨rfl,hy⟩;have H1:=hid (H0.out.next hy);clear hy k0 k1 k2 k3 k4 k5 k6 H0 zU;have k0:=H1.out.cell 12 (.int .u8 (r.p.pr:Int)) zf;have k1:=H1.out.cell 13 (.int .u32 (r.p.sr:Int)) zf;have k2:=H1.out.cell 14 (.int .u32 (r.p.ds:Int)) zf;have k3:=H1.out.cell 15 (.int .u16 (r.p.sp:Int)) zf;have k4:=H1.out.cell 16 (.int .u16 (r.p.dp:Int)) zf;have k5:=H1.out.cell 17 (.int .u8 (r.p.fl:Int)) zf;have k6:=H1.out.cell 18 (.int .u8 (r.p.kd:Int)) zf;go_wp2_with fail;refine(Qf.out _).mono ?_;rintro e w2 ⟨rfl,hy⟩;have H2:=hid (H1.out.next hy);clear hy k0 k1 k2 k3 k4 k5 k6 H1;go_wp2_with fail;go_ret;exact⟨rfl,H2.out⟩
  ·cases hc:jt b.C.N r.wg
   ·have hv:cU b.C r l=5:=by unfold cU;rw[ha,hb,hc];rfl
    rw[hv,if_neg zo];rw[ha]at zU;rw[show Fs.J9 (r.p.pr:Int) (r.p.fl:Int) (r.p.kd:Int)=true from hb]at Qf;have HC:Hid (jt b.C.N r.wg=false):=hc;clear hv ha hb hc hF;obtain⟨on,hon⟩:∃z,Ge r=z:=⟨_,rfl⟩;rw[show Fs.Ge (r.p.pr:Int) (r.p.fl:Int) (r.p.kd:Int)=on from hon]at Qf;clear hon;go_in;go_wp2_with fail;refine zU.out.mono ?_;rintro e w1 ⟨rfl,hy⟩;have H1:=hid (H0.out.next hy);clear hy k0 k1 k2 k3 k4 k5 k6 H0 zU;have k0:=H1.out.cell 12 (.int .u8 (r.p.pr:Int)) zf;have k1:=H1.out.cell 13 (.int .u32 (r.p.sr:Int)) zf;have k2:=H1.out.cell 14 (.int .u32 (r.p.ds:Int)) zf;have k3:=H1.out.cell 15 (.int .u16 (r.p.sp:Int)) zf;have k4:=H1.out.cell 16 (.int .u16 (r.p.dp:Int)) zf;have k5:=H1.out.cell 17 (.int .u8 (r.p.fl:Int)) zf;have k6:=H1.out.cell 18 (.int .u8 (r.p.kd:Int)) zf;go_wp2_with fail;refine(Qf.out _).mono ?_;rintro e w2 ⟨rfl,hy⟩;have H2:=hid (H1.out.next hy);clear hy k0 k1 k2 k3 k4 k5 k6 H1;go_wp2_with fail;refine wp_region_held_drew (S:=λw'=>w'.cell? ⟨b.g,35,none⟩=some (.int .u64 r.wg)/\w'.cell? ⟨b.g,0,none⟩=some (ptr b.B)/\w'.cell? ⟨b.B,1,none⟩=some (.int .i64 b.C.N)) zk (⟨H2.out.drew.cell 35 (.int .u64 r.wg) zf,H2.out.drew.cell 0 (ptr b.B) zf,H2.out.drew.shared 1 (.int .i64 b.C.N) zg⟩) (λhH=>?_);refine zr 0 33 hH ?_;refine zr 1 34 hH ?_;refine zr 2 35 hH ?_;refine zr 3 36 hH ?_;refine zr 4 37 hH ?_;refine zr 5 38 hH ?_;refine zr 6 39 hH ?_;refine zr 7 40 hH ?_;refine zr 8 41 hH ?_;refine zr 9 42 hH ?_;refine zr 10 43 hH ?_;refine zr 11 44 hH ?_
    try simp only[zq]
    refine zrd 12 (λK hK=>?_);go_simp;refine(Fj.out _ (H2.out.drew.env HE.out)).mono ?_;rintro e w3 ⟨rfl,hy⟩;rw[HC.out];refine hK.out _ _ (⟨(H2.out.drew.next hy).cell 35 (.int .u64 r.wg) zf,(H2.out.drew.next hy).cell 0 (ptr b.B) zf,(H2.out.drew.next hy).shared 1 (.int .i64 b.C.N) zg⟩) (λhH=>?_);clear hK K;have H3:=hid (H2.out.drew.next hy);clear hy H2
    try simp only[zq]
    refine zr 13 32 hH ?_;refine zr 14 46 hH ?_;refine zr 15 47 hH ?_;refine zr 16 9 hH ?_;refine zr 17 10 hH ?_
    try simp only[zq]
    refine wpAnyH_done zk ?_ _;clear hH;go_wp2_with fail;go_ret;exact⟨rfl,H3.out⟩
   ·have hv:cU b.C r l=1:=by unfold cU;rw[ha,hb,hc];rfl
    rw[hv,if_pos rfl];rw[ha]at zU;rw[show Fs.J9 (r.p.pr:Int) (r.p.fl:Int) (r.p.kd:Int)=true from hb]at Qf;have HC:Hid (jt b.C.N r.wg=true):=hc;clear hv ha hb hc hF;obtain⟨on,hon⟩:∃z,Ge r=z:=⟨_,rfl⟩;rw[show Fs.Ge (r.p.pr:Int) (r.p.fl:Int) (r.p.kd:Int)=on from hon]at Qf;rw[hon];clear hon;go_in;go_wp2_with fail;refine zU.out.mono ?_;rintro e w1 ⟨rfl,hy⟩;have H1:=hid (H0.out.next hy);clear hy k0 k1 k2 k3 k4 k5 k6 H0 zU;have k0:=H1.out.cell 12 (.int .u8 (r.p.pr:Int)) zf;have k1:=H1.out.cell 13 (.int .u32 (r.p.sr:Int)) zf;have k2:=H1.out.cell 14 (.int .u32 (r.p.ds:Int)) zf;have k3:=H1.out.cell 15 (.int .u16 (r.p.sp:Int)) zf;have k4:=H1.out.cell 16 (.int .u16 (r.p.dp:Int)) zf;have k5:=H1.out.cell 17 (.int .u8 (r.p.fl:Int)) zf;have k6:=H1.out.cell 18 (.int .u8 (r.p.kd:Int)) zf;go_wp2_with fail;refine(Qf.out _).mono ?_;rintro e w2 ⟨rfl,hy⟩;have H2:=hid (H1.out.next hy);clear hy k0 k1 k2 k3 k4 k5 k6 H1;go_wp2_with fail;refine wp_region_held_drew (S:=λw'=>w'.cell? ⟨b.g,35,none⟩=some (.int .u64 r.wg)/\w'.cell? ⟨b.g,0,none⟩=some (ptr b.B)/\w'.cell? ⟨b.B,1,none⟩=some (.int .i64 b.C.N)) zk (⟨H2.out.drew.cell 35 (.int .u64 r.wg) zf,H2.out.drew.cell 0 (ptr b.B) zf,H2.out.drew.shared 1 (.int .i64 b.C.N) zg⟩) (λhH=>?_);refine zr 0 33 hH ?_;refine zr 1 34 hH ?_;refine zr 2 35 hH ?_;refine zr 3 36 hH ?_;refine zr 4 37 hH ?_;refine zr 5 38 hH ?_;refine zr 6 39 hH ?_;refine zr 7 40 hH ?_;refine zr 8 41 hH ?_;refine zr 9 42 hH ?_;refine zr 10 43 hH ?_;refine zr 11 44 hH ?_
    try simp only[zq]
    refine zrd 12 (λK hK=>?_);go_simp;refine(Fj.out _ (H2.out.drew.env HE.out)).mono ?_;rintro e w3 ⟨rfl,hy⟩;rw[HC.out];refine hK.out _ _ (⟨(H2.out.drew.next hy).cell 35 (.int .u64 r.wg) zf,(H2.out.drew.next hy).cell 0 (ptr b.B) zf,(H2.out.drew.next hy).shared 1 (.int .i64 b.C.N) zg⟩) (λhH=>?_);clear hK K;have H3:=hid (H2.out.drew.next hy);clear hy H2
    try simp only[zq]
    refine zr 13 32 hH ?_;refine zr 14 46 hH ?_;refine zr 15 47 hH ?_;refine zr 16 9 hH ?_;refine zr 17 10 hH ?_
    try simp only[zq]
    refine wpAnyH_done zk ?_ _;clear hH;have HS:=hid (H3.out.set (r':={ r with tn:=on }) 32 (.int .i64 on) zf rfl rfl);have q0:=H3.out.frozen 32;have q1:=H3.out.cell 32 (.int .i64 r.tn) zf;clear H3;go_wp2_with fail;go_ret;exact⟨rfl,HS.out⟩
theorem Ee(H:Y b S r W)(hr:Rm 9 S)(hF:Fit b.C S r)(he:Env b.w0):Calls Tryz.prog 106 #[ptr b.g] W (Yd b U ((fq b.C S r).1) ((fq b.C S r).2)):=by
 have HR:=hid hr;have HF:=hid hF;have HE:=hid he;have H0:=hid H;have HW:=hid (H.word 0);have YP:Hid (Fit b.C (gX S r 0) (dK S r)):=⟨hF.wf,HW.out,hF.wc,hF.k,hF.p,hF.st,hF.cn,hF.cT,hF.z,hF.mr,hF.q,hF.tt⟩;have M5:Hid (Fit b.C (uB b.C (gX S r 0) (dK S r)) (dK S r)):=⟨hF.wf,HW.out,hF.wc,hF.k,hF.p,hF.st,hF.cn,hF.cT,hF.z,hF.mr,hF.q,hF.tt⟩;have M7:Hid (Rm 6 (uB b.C (gX S r 0) (dK S r))):=(hr.ld 0 |>.touch (r:=dK S r) 5 _).mono zo;obtain⟨av,SB⟩:∃z,cU b.C (dK S r) (S.rl (vG (af S.ms 0)))=z:=⟨_,rfl⟩;by_cases h1:av=1
 ·subst h1;rw[show fq b.C S r=(uB b.C (gX S r 0) (dK S r),{ dK S r with tn:=Ge (dK S r),at_:=.enter }) by unfold fq nN;rw[show cU b.C (dK S r) ((gX S r 0).rl (vG (dK S r).wg))=1 from SB,if_pos rfl]];have Xa:Hid (cU b.C (dK S r) ((gX S r 0).rl (vG (dK S r).wg))=1):=SB;clear SB H hr hF he;go_in;go_wp2_with fail;refine(bF H0.out (HR.out.mono zo)).mono ?_;rintro e w1 ⟨rfl,hy⟩;have H1:=hid hy;clear hy H0;go_wp2_with fail;refine(oB H1.out ((HR.out.ld 0).mono zo) YP.out HE.out).mono ?_;rintro e w2 ⟨v,rfl,hy⟩;have H2:=hid hy;clear hy H1;go_wp2_with fail;have RL:=hid (x_ H2.out M5.out HE.out);rw[Xa.out]at RL;refine RL.out.mono ?_;rintro e w3 ⟨rfl,hy⟩;rw[if_pos rfl]at hy;have H3:=hid hy;clear hy H2 RL;go_wp2_with fail;refine(aB H3.out .enter _ rfl).mono ?_;rintro e w4 ⟨rfl,hy⟩;have H4:=hid hy;clear hy;go_wp2_with fail;go_end0;exact⟨rfl,H4.out⟩
 ·rw[show fq b.C S r=lE (uB b.C (gX S r 0) (dK S r)) (dK S r) av by unfold fq nN;rw[show cU b.C (dK S r) ((gX S r 0).rl (vG (dK S r).wg))=av from SB,if_neg h1]];have Xa:Hid (cU b.C (dK S r) ((gX S r 0).rl (vG (dK S r).wg))=av):=SB;have H1N:=hid h1
  have d1:(av==1)=false:=by simpa using h1
  clear SB h1 H hr hF he;go_in;go_wp2_with fail;refine(bF H0.out (HR.out.mono zo)).mono ?_;rintro e w1 ⟨rfl,hy⟩;have H1:=hid hy;clear hy H0;go_wp2_with fail;refine(oB H1.out ((HR.out.ld 0).mono zo) YP.out HE.out).mono ?_;rintro e w2 ⟨v,rfl,hy⟩;have H2:=hid hy;clear hy H1;go_wp2_with fail;have RL:=hid (x_ H2.out M5.out HE.out);rw[Xa.out]at RL;refine RL.out.mono ?_;rintro e w3 ⟨rfl,hy⟩;rw[if_neg H1N.out]at hy;have H3:=hid hy;clear hy H2 RL;go_wp2_with fail;refine(aay H3.out M7.out M5.out HE.out av).mono ?_;rintro e w4 ⟨rfl,hy⟩;have H4:=hid hy;clear hy;go_wp2_with fail;go_end0;exact⟨rfl,H4.out⟩
end
end Pg
end Go.Proofs.YtbhnbcadgmagpaaGreatDoor
namespace Go.Proofs.YtbhnbcadgmagpaaGreatDoor
open Go.ChangeShapes Go.WideShapes Go.ChangeAt Go.RowKit Go.aN Go.Lib
namespace Pg
open bg (Ms af bq ay aP ag L4 aH aq ai bD)
open aE (R)
open ak (Ke)
open Me (ptr)
open Tb (UW TM Fw)
section
variable {b:Bs}{W:World}{S:Sh}{r:Rn}
theorem T4(H:Y b S r W)(hr:Rm 0 S)(hk:r.k.Ok)(x:Int)(hx : -9223372036854775808<=x/\x<=9223372036854775807):Calls Tryz.prog 201 #[ptr b.tb,.int .i64 r.t,.agg #[.int .u32 (r.k.a:Int),.int .u32 (r.k.b:Int),.int .u16 (r.k.p:Int),.int .u16 (r.k.q:Int),.int .u8 (r.k.r:Int)],.int .i64 x,.bool r.dn] W λe w'=>(∃ve,e = .returned (.int .i64 ve))/\Y b (ry b.C S r x) r w':=by
 cases hh:hasB b.C S r with
 | false =>
  rw[show ry b.C S r x=S by unfold ry;rw[hh];rfl]
  refine(H.table (fs':=S.fs) (λw Om Ot h=>Tb.Ka h r.t r.k hk x r.dn _ rfl hh)).mono ?_
  rintro e w' ⟨rfl,h⟩
  exact⟨⟨_,rfl⟩,h⟩
 | true =>
  rw[show ry b.C S r x = { S with ms:=ai S.ms r.t 6 ((Tb.gZ b.C.n r.k:Nat):Int),fs:=Tb.upd ⟨r.k,x,r.dn⟩ S.fs } by unfold ry;rw[hh];rfl]
  refine(H.table (λw Om Ot h=>Tb.jR h hr.l r.t r.k hk x r.dn _ rfl hh hx)).mono ?_
  rintro e w' ⟨rfl,h⟩
  exact⟨⟨_,rfl⟩,h⟩
theorem Fy{x:Int}(h:g_ x):vG (cJ x)=dW x:=by
 unfold cJ dW;by_cases hb:vG x=4095
 ·rw[if_pos hb,if_pos hb]
 ·rw[if_neg hb,if_neg hb];exact(wG (uz h hb)).2.2.2
theorem IF(H:Y b S r W)(hr:Rm 9 S)(hF:Fit b.C S r)(he:Env b.w0):Calls Tryz.prog 148 #[ptr b.g] W (Yd b U ((h_ b.C S r).1) ((h_ b.C S r).2)):=by
 have HR:=hid hr;have HF:=hid hF;have HE:=hid he;have H0:=hid H;have HN:=hid (yJ hF.wg b.C.N);have Fj:=hid (λW he=>KH hF.wg b.C.N W he);have HNX:=hid (yI (x:=0) ⟨by omega,by omega⟩ r.tn (ju b.C r))
 cases hz:ay S.ms 0 r.wg
 ·rw[show h_ b.C S r=((fG S r 0 r.wg (cj b.C.N r.wg)),goto r .absent) by unfold h_;rw[hz];rfl];have HZ:Hid (ay S.ms 0 r.wg=false):=hz;clear hz H hr hF he;go_in;go_wp2_with fail;refine wp_region_held_drew (S:=λw'=>w'.cell? ⟨b.g,35,none⟩=some (.int .u64 r.wg)/\w'.cell? ⟨b.g,0,none⟩=some (ptr b.B)/\w'.cell? ⟨b.B,1,none⟩=some (.int .i64 b.C.N)) zk (⟨H0.out.drew.cell 35 (.int .u64 r.wg) zf,H0.out.drew.cell 0 (ptr b.B) zf,H0.out.drew.shared 1 (.int .i64 b.C.N) zg⟩) (λhH=>?_);refine zr 0 6 hH ?_;refine zr 1 7 hH ?_;refine zr 2 8 hH ?_;refine zr 3 9 hH ?_;refine zr 4 10 hH ?_;refine zr 5 11 hH ?_;refine zr 6 12 hH ?_;refine zr 7 13 hH ?_;refine zr 8 14 hH ?_;refine zr 9 15 hH ?_;refine zr 10 16 hH ?_;refine zr 11 17 hH ?_
  try simp only[zq]
  refine zrd 12 (λK hK=>?_);go_simp;refine(Fj.out _ (H0.out.drew.env HE.out)).mono ?_;rintro e w1 ⟨rfl,hy⟩;refine hK.out _ _ (⟨(H0.out.drew.next hy).cell 35 (.int .u64 r.wg) zf,(H0.out.drew.next hy).cell 0 (ptr b.B) zf,(H0.out.drew.next hy).shared 1 (.int .i64 b.C.N) zg⟩) (λhH=>?_);clear hK K;have H1:=hid (H0.out.drew.next hy);clear hy H0
  try simp only[zq]
  refine zr 13 5 hH ?_;refine zr 14 19 hH ?_;refine zr 15 20 hH ?_;refine zr 16 2 hH ?_;refine zr 17 3 hH ?_
  try simp only[zq]
  refine wpAnyH_done zk ?_ _;clear hH;go_wp2_with fail;have gT:=hid (cf H1.out (HR.out.mono zo) _ HN.out);rw[HZ.out]at gT;refine gT.out.mono ?_;rintro e w2 ⟨rfl,hy⟩;have H2:=hid hy;clear hy gT H1;go_wp2_with fail;refine(aB H2.out .absent _ rfl).mono ?_;rintro e w4 ⟨rfl,hy⟩;have H4:=hid hy;clear hy;go_wp2_with fail;go_end0;exact⟨rfl,H4.out⟩
 ·rw[show h_ b.C S r=lE (ry b.C (uC (fG S r 0 r.wg (cj b.C.N r.wg)) (kF 0 r.tn (ju b.C r))) r ((fG S r 0 r.wg (cj b.C.N r.wg)).ms.ws.length:Int)) r 1 by unfold h_;rw[hz];rfl];have HZ:Hid (ay S.ms 0 r.wg=true):=hz;clear hz H hr hF he;go_in;go_wp2_with fail;refine wp_region_held_drew (S:=λw'=>w'.cell? ⟨b.g,35,none⟩=some (.int .u64 r.wg)/\w'.cell? ⟨b.g,0,none⟩=some (ptr b.B)/\w'.cell? ⟨b.B,1,none⟩=some (.int .i64 b.C.N)) zk (⟨H0.out.drew.cell 35 (.int .u64 r.wg) zf,H0.out.drew.cell 0 (ptr b.B) zf,H0.out.drew.shared 1 (.int .i64 b.C.N) zg⟩) (λhH=>?_);refine zr 0 6 hH ?_;refine zr 1 7 hH ?_;refine zr 2 8 hH ?_;refine zr 3 9 hH ?_;refine zr 4 10 hH ?_;refine zr 5 11 hH ?_;refine zr 6 12 hH ?_;refine zr 7 13 hH ?_;refine zr 8 14 hH ?_;refine zr 9 15 hH ?_;refine zr 10 16 hH ?_;refine zr 11 17 hH ?_
  try simp only[zq]
  refine zrd 12 (λK hK=>?_);go_simp;refine(Fj.out _ (H0.out.drew.env HE.out)).mono ?_;rintro e w1 ⟨rfl,hy⟩;refine hK.out _ _ (⟨(H0.out.drew.next hy).cell 35 (.int .u64 r.wg) zf,(H0.out.drew.next hy).cell 0 (ptr b.B) zf,(H0.out.drew.next hy).shared 1 (.int .i64 b.C.N) zg⟩) (λhH=>?_);clear hK K;have H1:=hid (H0.out.drew.next hy);clear hy H0
  try simp only[zq]
  refine zr 13 5 hH ?_;refine zr 14 19 hH ?_;refine zr 15 20 hH ?_;refine zr 16 2 hH ?_;refine zr 17 3 hH ?_
  try simp only[zq]
  refine wpAnyH_done zk ?_ _;clear hH;go_wp2_with fail;have gT:=hid (cf H1.out (HR.out.mono zo) _ HN.out);rw[HZ.out]at gT;refine gT.out.mono ?_;rintro e w2 ⟨rfl,hy⟩;have H2:=hid hy;clear hy gT H1;go_wp2_with fail;have YQ:Hid ((fG S r 0 r.wg (cj b.C.N r.wg)).ms.ws.length<1000000000000):=((HR.out.sw 0 r.wg (cj b.C.N r.wg)).mono (Nat.zero_le _)).w
  have HWL:Hid (-9223372036854775808<=((fG S r 0 r.wg (cj b.C.N r.wg)).ms.ws.length:Int)/\((fG S r 0 r.wg (cj b.C.N r.wg)).ms.ws.length:Int)<=9223372036854775807):=by have:=YQ.out;show _/\_;omega
  have HFP:Hid (Fit b.C (ry b.C (uC (fG S r 0 r.wg (cj b.C.N r.wg)) (kF 0 r.tn (ju b.C r))) r ((fG S r 0 r.wg (cj b.C.N r.wg)).ms.ws.length:Int)) r):=⟨HF.out.wf,HF.out.wg,HF.out.wc,HF.out.k,HF.out.p,HF.out.st,HF.out.cn,HF.out.cT,HF.out.z,λh=>by have:=HF.out.mr h;unfold ry;split <;> exact this,HF.out.q,HF.out.tt⟩;refine wp_region_held_drew (S:=λw'=>w'.cell? ⟨b.g,0,none⟩=some (ptr b.B)/\w'.cell? ⟨b.B,18,none⟩=some (ptr b.mb)/\w'.cell? ⟨b.g,32,none⟩=some (.int .i64 r.tn)) zk (⟨H2.out.drew.cell 0 (ptr b.B) zf,H2.out.drew.shared 18 (ptr b.mb) zg,H2.out.drew.cell 32 (.int .i64 r.tn) zf⟩) (λhH=>?_);refine zr 0 27 hH ?_;refine zr 1 28 hH ?_;refine zr 2 29 hH ?_;refine zr 3 30 hH ?_;refine zr 4 31 hH ?_;refine zr 5 32 hH ?_;refine zr 6 33 hH ?_;refine zr 7 34 hH ?_;refine zr 8 35 hH ?_;refine zr 9 36 hH ?_;refine zr 10 37 hH ?_;refine zr 11 38 hH ?_
  try simp only[zq]
  refine zrd 12 (λK hK=>?_);go_simp;refine(nH H2.out.drew HF.out.wg HE.out HF.out.cT).mono ?_;rintro e w3 ⟨rfl,hy⟩;refine hK.out _ _ (⟨hy.cell 0 (ptr b.B) zf,hy.shared 18 (ptr b.mb) zg,hy.cell 32 (.int .i64 r.tn) zf⟩) (λhH=>?_);clear hK K;have H3:=hid hy;clear hy H2
  try simp only[zq]
  refine zrd 13 (λK hK=>?_);go_simp;refine(KF (x:=0) ⟨by omega,by omega⟩ r.tn (ju b.C r) _ (H3.out.env HE.out)).mono ?_;rintro e w4 ⟨rfl,hy⟩;refine hK.out _ _ (⟨(H3.out.next hy).cell 0 (ptr b.B) zf,(H3.out.next hy).shared 18 (ptr b.mb) zg,(H3.out.next hy).cell 32 (.int .i64 r.tn) zf⟩) (λhH=>?_);clear hK K;have H4:=hid (H3.out.next hy);clear hy H3
  try simp only[zq]
  refine zrd 14 (λK hK=>?_);go_simp;refine(H4.out.does (λOm h=>Me.JU h _ HNX.out YQ.out)).mono ?_;rintro e w5 ⟨rfl,hy⟩;refine hK.out _ _ (⟨hy.cell 0 (ptr b.B) zf,hy.shared 18 (ptr b.mb) zg,hy.cell 32 (.int .i64 r.tn) zf⟩) (λhH=>?_);clear hK K;have H5:Hid (Y b (uC (fG S r 0 r.wg (cj b.C.N r.wg)) (kF 0 r.tn (ju b.C r))) r w5):=hy;clear hy H4
  try simp only[zq]
  refine zr 15 4 hH ?_
  try simp only[zq]
  refine wpAnyH_done zk ?_ _;clear hH;go_wp2_with fail;refine wp_region_held_drew (S:=λw'=>w'.cell? ⟨b.g,0,none⟩=some (ptr b.B)/\w'.cell? ⟨b.B,19,none⟩=some (ptr b.tb)/\w'.cell? ⟨b.g,1,none⟩=some (.int .i64 r.t)/\w'.cell? ⟨b.g,25,none⟩=some (.int .u32 (r.k.a:Int))/\w'.cell? ⟨b.g,26,none⟩=some (.int .u32 (r.k.b:Int))/\w'.cell? ⟨b.g,27,none⟩=some (.int .u16 (r.k.p:Int))/\w'.cell? ⟨b.g,28,none⟩=some (.int .u16 (r.k.q:Int))/\w'.cell? ⟨b.g,29,none⟩=some (.int .u8 (r.k.r:Int))/\w'.cell? ⟨b.g,19,none⟩=some (.bool r.dn)) zk (⟨H5.out.drew.cell 0 (ptr b.B) zf,H5.out.drew.shared 19 (ptr b.tb) zg,H5.out.drew.cell 1 (.int .i64 r.t) zf,H5.out.drew.cell 25 (.int .u32 (r.k.a:Int)) zf,H5.out.drew.cell 26 (.int .u32 (r.k.b:Int)) zf,H5.out.drew.cell 27 (.int .u16 (r.k.p:Int)) zf,H5.out.drew.cell 28 (.int .u16 (r.k.q:Int)) zf,H5.out.drew.cell 29 (.int .u8 (r.k.r:Int)) zf,H5.out.drew.cell 19 (.bool r.dn) zf⟩) (λhH=>?_);refine zr 0 42 hH ?_;refine zr 1 43 hH ?_;refine zr 2 44 hH ?_;refine zr 3 45 hH ?_;refine zr 4 46 hH ?_;refine zr 5 47 hH ?_;refine zr 6 48 hH ?_;refine zr 7 49 hH ?_;refine zr 8 50 hH ?_;refine zr 9 51 hH ?_;refine zr 10 52 hH ?_;refine zr 11 53 hH ?_;refine zr 12 54 hH ?_;refine zr 13 55 hH ?_;refine zr 14 56 hH ?_;refine zr 15 57 hH ?_;refine zr 16 58 hH ?_;refine zr 17 59 hH ?_;refine zr 18 60 hH ?_;refine zr 19 61 hH ?_
  try simp only[zq]
  refine zrd 20 (λK hK=>?_);go_simp;refine(T4 H5.out.drew (((HR.out.sw 0 r.wg (cj b.C.N r.wg)).VC _).mono zo) HF.out.k _ HWL.out).mono ?_;rintro e w6 ⟨⟨ve,rfl⟩,hy⟩;refine hK.out _ _ (⟨hy.cell 0 (ptr b.B) zf,hy.shared 19 (ptr b.tb) zg,hy.cell 1 (.int .i64 r.t) zf,hy.cell 25 (.int .u32 (r.k.a:Int)) zf,hy.cell 26 (.int .u32 (r.k.b:Int)) zf,hy.cell 27 (.int .u16 (r.k.p:Int)) zf,hy.cell 28 (.int .u16 (r.k.q:Int)) zf,hy.cell 29 (.int .u8 (r.k.r:Int)) zf,hy.cell 19 (.bool r.dn) zf⟩) (λhH=>?_);clear hK K;have H6:=hid hy;clear hy H5
  try simp only[zq]
  refine wpAnyH_done zk ?_ _;clear hH;go_wp2_with fail;refine(aay H6.out ((((HR.out.sw 0 r.wg (cj b.C.N r.wg)).VC _).put _).mono zo) HFP.out HE.out 1).mono ?_;rintro e w7 ⟨rfl,hy⟩;have H7:=hid hy;clear hy;go_wp2_with fail;go_end0;exact⟨rfl,H7.out⟩
theorem Cn(H:Y b S r W)(hr:Rm 9 S)(hF:Fit b.C S r)(he:Env b.w0):Calls Tryz.prog 114 #[ptr b.g] W (Yd b U ((dQ b.C S r).1) ((dQ b.C S r).2)):=by
 have HR:=hid hr;have HF:=hid hF;have HE:=hid he;have H0:=hid H;have HW:=hid (H.word 0);by_cases hv:vG (af S.ms 0)=4095
 ·rw[show dQ b.C S r=(gX S r 0,{ dK S r with e:=2,at_:=.disclaim }) by unfold dQ kK;rw[show vG (dK S r).wg=4095 from hv,if_pos rfl]]
  have SC:Hid (∀W,Env W->Calls Tryz.prog 163 #[.int .u64 (af S.ms 0)] W λe w'=>e = .returned (.tuple #[.int .u64 (cJ (af S.ms 0)),.bool false])/\Below W.heap.size W w'):=λW he=>by have:=KI HW.out W he;rwa [show decide (vG (af S.ms 0)≠4095)=false by simpa using hv]at this
  clear hv H hr hF he;go_in;go_wp2_with fail;refine(bF H0.out (HR.out.mono zo)).mono ?_;rintro e w1 ⟨rfl,hy⟩;have H1:=hid hy;clear hy H0;have q0:w1.cell? ⟨b.g,35,none⟩=some (.int .u64 (af S.ms 0)):=H1.out.cell 35 _ zf;go_wp2_with fail
  refine SC.out _ (H1.out.env HE.out) |>.mono ?_
  rintro e w2 ⟨rfl,hy⟩;have H2:=hid (H1.out.next hy);clear hy q0 H1;have HS:=hid (H2.out.set (r':={ dK S r with e:=2 }) 7 (.int .i64 2) zf rfl rfl);have q0:=H2.out.frozen 7;have q1:w2.cell? ⟨b.g,7,none⟩=some (.int .i64 r.e):=H2.out.cell 7 _ zf;clear H2;go_wp2_with fail;refine(aB HS.out .disclaim _ rfl).mono ?_;rintro e w4 ⟨rfl,hy⟩;have H4:=hid hy;clear hy;go_wp2_with fail;go_end0;exact⟨rfl,H4.out⟩
 ·rw[show dQ b.C S r=(yM b.C (gX S r 0) (dK S r),goto (dK S r) .publish) by unfold dQ kK;rw[if_neg (show ¬vG (dK S r).wg=4095 from hv)]]
  have Xb:Hid (vG (cJ (af S.ms 0))=vG (af S.ms 0)+1):=by show _=_;rw[Fy HW.out];unfold dW;rw[if_neg hv]
  have HVB:Hid (0<=vG (af S.ms 0)+1/\vG (af S.ms 0)+1<=4096):=by have h0:=(l8 HW.out).v0;have h1:=(l8 HW.out).v1;show _/\_;omega
  have HWS:=hid (yL HW.out);have HL:Hid ((gX S r 0).ms.ls.length<=1000000000000):=((hr.ld 0).mono (Nat.zero_le _)).l
  have HUN:Hid (∀W,Env W->Calls Tryz.prog 46 #[.int .u64 (cJ (af S.ms 0))] W λe w'=>e = .returned (.agg #[.int .i64 (vG (af S.ms 0)+1),.int .i64 (kG (cJ (af S.ms 0))),.int .i64 (cG (cJ (af S.ms 0)))])/\Below W.heap.size W w'):=λW he=>by have:=nR HWS.out W he;rwa [Xb.out]at this
  have SC:Hid (∀W,Env W->Calls Tryz.prog 163 #[.int .u64 (af S.ms 0)] W λe w'=>e = .returned (.tuple #[.int .u64 (cJ (af S.ms 0)),.bool true])/\Below W.heap.size W w'):=λW he=>by have:=KI HW.out W he;rwa [show decide (vG (af S.ms 0)≠4095)=true by simpa using hv]at this
  clear hv;have HVV:Hid (vG (dK S r).wg+1=vG (af S.ms 0)+1):=rfl;clear H hr hF he;go_in;go_wp2_with fail;refine(bF H0.out (HR.out.mono zo)).mono ?_;rintro e w1 ⟨rfl,hy⟩;have H1:=hid hy;clear hy H0;have q0:w1.cell? ⟨b.g,35,none⟩=some (.int .u64 (af S.ms 0)):=H1.out.cell 35 _ zf;go_wp2_with fail
  refine SC.out _ (H1.out.env HE.out) |>.mono ?_
  rintro e w2 ⟨rfl,hy⟩;have H2:=hid (H1.out.next hy);clear hy q0 H1;go_wp2_with fail;refine(HUN.out _ (H2.out.env HE.out)).mono ?_;rintro e w3 ⟨rfl,hy⟩;have H3:=hid (H2.out.next hy);have q0:=Dq (vG (af S.ms 0)+1) (kG (cJ (af S.ms 0))) (cG (cJ (af S.ms 0)));clear hy H2;go_wp2_with fail;clear q0;refine wp_region_held_drew (S:=λw'=>w'.cell? ⟨b.g,0,none⟩=some (ptr b.B)/\w'.cell? ⟨b.B,18,none⟩=some (ptr b.mb)/\w'.cell? ⟨b.g,1,none⟩=some (.int .i64 r.t)) zk (⟨H3.out.drew.cell 0 (ptr b.B) zf,H3.out.drew.shared 18 (ptr b.mb) zg,H3.out.drew.cell 1 (.int .i64 r.t) zf⟩) (λhH=>?_);refine zr 0 26 hH ?_;refine zr 1 27 hH ?_;refine zr 2 28 hH ?_;refine zr 3 29 hH ?_;refine zr 4 30 hH ?_;refine zr 5 31 hH ?_;refine zr 6 32 hH ?_;refine zr 7 33 hH ?_;refine zr 8 34 hH ?_;refine zr 9 35 hH ?_;refine zr 10 36 hH ?_;refine zr 11 37 hH ?_;refine zr 12 38 hH ?_;refine zr 13 39 hH ?_;refine zr 14 40 hH ?_;refine zr 15 41 hH ?_
  try simp only[zq]
  refine zrd 16 (λK hK=>?_);go_simp;refine(mJ H3.out.drew HF.out.cn (vG (af S.ms 0)+1) HVB.out).mono ?_;rintro e w4 ⟨rfl,hy⟩;refine hK.out _ _ (⟨hy.cell 0 (ptr b.B) zf,hy.shared 18 (ptr b.mb) zg,hy.cell 1 (.int .i64 r.t) zf⟩) (λhH=>?_);clear hK K;have H4:=hid hy;clear hy H3
  try simp only[zq]
  refine zrd 17 (λK hK=>?_);go_simp;refine(H4.out.does (λOm h=>Me.qX h r.t ((b.C.n:Int)+(vG (af S.ms 0)+1)) HL.out)).mono ?_;rintro e w5 ⟨rfl,hy⟩;refine hK.out _ _ (⟨hy.cell 0 (ptr b.B) zf,hy.shared 18 (ptr b.mb) zg,hy.cell 1 (.int .i64 r.t) zf⟩) (λhH=>?_);clear hK K;have H5:=hid hy;clear hy H4
  try simp only[zq]
  refine wpAnyH_done zk ?_ _;clear hH;go_wp2_with fail;obtain⟨Om,Ot,Kf,pv,lv,kv,xZ⟩:=H5.out
  obtain⟨A,n,cc,rfl⟩:∃A n cc,lv = .slice A n cc:=by
   obtain⟨⟨A,cc,e,_⟩,_⟩:=xZ.n_;exact⟨A,_,cc,e⟩
  have UB:Hid (∃w',(Instr.mapUpdate 81 (.map (some b.rm)) (.int .i64 (vG (af S.ms 0)+1)) (.slice A n cc)).run Tryz.prog w5.drew = .ok () w'/\Y b (yM b.C (gX S r 0) (dK S r)) (dK S r) w'):=by
   have HD:=xZ.next (Below.refl _ w5).drew;obtain⟨w',h1,h2,h3⟩:=HD.map.put (λe=>(HD.dk _ e).1 (.inr (.inr (.inr (.inl rfl))))) (vG (af S.ms 0)+1) HD.n_;exact⟨w',h1,_,_,_,_,_,_,HD.rules h3 h2⟩
  have z0:=xZ.run.cell 0 (ptr b.B) rfl;have z1:=xZ.blk.cell 20 (.map (some b.rm)) rfl;have z2:=xZ.run.cell 11 (.slice A n cc) rfl;clear xZ H5;refine iz (S:=λw'=>w'.cell? ⟨b.g,0,none⟩=some (ptr b.B)/\w'.cell? ⟨b.B,20,none⟩=some (.map (some b.rm))/\w'.cell? ⟨b.g,11,none⟩=some (.slice A n cc)) 12 zk (⟨z0,z1,z2⟩) (λhH=>?_);refine eS 0 44 hH ?_;refine eS 1 45 hH ?_;refine eS 2 46 hH ?_;refine eS 3 47 hH ?_;refine eS 4 48 hH ?_;refine eS 5 49 hH ?_;refine eS 6 50 hH ?_;refine eS 7 51 hH ?_;refine eS 8 52 hH ?_;refine eS 9 53 hH ?_;refine eS 10 54 hH ?_;refine eS 11 55 hH ?_
  try simp only[zq]
  refine bu (rs:=[12]) zk zs (eW.end_ rfl (λK hK=>?_));obtain⟨w6,hrun,hy⟩:=UB.out;have H6:=hid hy;go_simp;clear hy UB hrun;refine hK.out _ _ ?_;clear hK K
  try simp only[zq]
  refine gm zk ?_ _;clear hH;go_wp2_with fail;refine(aB H6.out .publish _ rfl).mono ?_;rintro e w7 ⟨rfl,hy⟩;have H7:=hid hy;clear hy;go_wp2_with fail;go_end0;exact⟨rfl,H7.out⟩
theorem Co(H:Y b S r W)(hr:Rm 9 S)(hF:Fit b.C S r)(he:Env b.w0):Calls Tryz.prog 167 #[ptr b.g] W (Yd b U ((dR S r).1) ((dR S r).2)):=by
 have HR:=hid hr;have HF:=hid hF;have HE:=hid he;have H0:=hid H;have HN:=hid (yL hF.wg);have SC:=hid (λW he=>KI hF.wg W he);have Xb:=hid (Fy hF.wg)
 have HUN:Hid (∀W,Env W->Calls Tryz.prog 46 #[.int .u64 (cJ r.wg)] W λe w'=>e = .returned (.agg #[.int .i64 (dW r.wg),.int .i64 (kG (cJ r.wg)),.int .i64 (cG (cJ r.wg))])/\Below W.heap.size W w'):=λW he=>by have:=nR HN.out W he;rwa [Xb.out]at this
 have hvb:0<=dW r.wg/\dW r.wg<=4096:=by have h0:=(l8 hF.wg).v0;have h1:=(l8 hF.wg).v1;unfold dW;split <;> omega
 cases hz:ay S.ms 0 r.wg
 ·rw[show dR S r=(fG S r 0 r.wg (cJ r.wg),goto r .prepare) by unfold dR;rw[hz];rfl];have HZ:Hid (ay S.ms 0 r.wg=false):=hz;have y0:=H0.out.cell 35 (.int .u64 r.wg) zf;clear hz hvb H hr hF he;go_in;go_wp2_with fail;refine(SC.out _ (H0.out.env HE.out)).mono ?_;rintro e w1 ⟨rfl,hy⟩;have H1:=hid (H0.out.next hy);clear hy y0 H0;go_wp2_with fail;have gT:=hid (cf H1.out (HR.out.mono zo) _ HN.out);rw[HZ.out]at gT;refine gT.out.mono ?_;rintro e w2 ⟨rfl,hy⟩;have H2:=hid hy;clear hy gT H1;go_wp2_with fail;refine(aB H2.out .prepare _ rfl).mono ?_;rintro e w4 ⟨rfl,hy⟩;have H4:=hid hy;clear hy;go_wp2_with fail;go_end0;exact⟨rfl,H4.out⟩
 ·rw[show dR S r=(say { fG S r 0 r.wg (cJ r.wg)with rl:=ic S.rl (dW r.wg - 1) [] } r 6 k0 0 (dW r.wg),{ r with n:=dW r.wg,at_:=.disclaim }) by unfold dR;rw[hz];rfl];have HZ:Hid (ay S.ms 0 r.wg=true):=hz;have y0:=H0.out.cell 35 (.int .u64 r.wg) zf
  have M7:Hid (Rm 0 { fG S r 0 r.wg (cJ r.wg)with rl:=ic S.rl (dW r.wg - 1) [] }):=by have h:=(hr.sw (r:=r) 0 r.wg (cJ r.wg)).mono (Nat.zero_le _);exact⟨h.l,h.f,h.p,h.w⟩
  clear hz H hr hF he;go_in;go_wp2_with fail;refine(SC.out _ (H0.out.env HE.out)).mono ?_;rintro e w1 ⟨rfl,hy⟩;have H1:=hid (H0.out.next hy);clear hy y0 H0;go_wp2_with fail;have gT:=hid (cf H1.out (HR.out.mono zo) _ HN.out);rw[HZ.out]at gT;refine gT.out.mono ?_;rintro e w2 ⟨rfl,hy⟩;have H2:=hid hy;clear hy gT H1;go_wp2_with fail;refine(HUN.out _ (H2.out.env HE.out)).mono ?_;rintro e w3 ⟨rfl,hy⟩;have H3:=hid (H2.out.next hy);clear hy H2
  obtain⟨w4,hrun,hy4⟩:∃w',(Builtin.delete_ #[81,3] 0 #[.map (some b.rm),.int .i64 (dW r.wg - 1)]).run Tryz.prog w3 = .ok (.tuple #[]) w'/\Y b { fG S r 0 r.wg (cJ r.wg)with rl:=ic S.rl (dW r.wg - 1) [] } r w':=by
   obtain⟨Om,Ot,Kf,pv,lv,kv,xZ⟩:=H3.out;obtain⟨w',h1,h2,h3⟩:=xZ.map.drop (λe=>(xZ.dk _ e).1 (.inr (.inr (.inr (.inl rfl))))) (dW r.wg - 1) 0;exact⟨w',h1,_,_,_,_,_,_,xZ.rules h3 h2⟩
  have H4:=hid hy4;have q0:=Dq (dW r.wg) (kG (cJ r.wg)) (cG (cJ r.wg));have z0:=H3.out.cell 0 (ptr b.B) zf;have z1:=H3.out.shared 20 (.map (some b.rm)) zg;clear hy4 H3;go_wp2_with fail;refine(jY H4.out M7.out 6 0 (dW r.wg)).mono ?_;rintro e w5 ⟨rfl,hy⟩;have H5:=hid hy;clear hy q0 z0 z1 hrun H4;have HS:=hid (H5.out.set (r':={ r with n:=dW r.wg }) 9 (.int .i64 (dW r.wg)) zf rfl rfl);have q0:=H5.out.frozen 9;have q1:=H5.out.cell 9 (.int .i64 r.n) zf;clear H5;go_wp2_with fail;refine(aB HS.out .disclaim _ rfl).mono ?_;rintro e w7 ⟨rfl,hy⟩;have H7:=hid hy;clear hy;go_wp2_with fail;go_end0;exact⟨rfl,H7.out⟩
end
end Pg
end Go.Proofs.YtbhnbcadgmagpaaGreatDoor
