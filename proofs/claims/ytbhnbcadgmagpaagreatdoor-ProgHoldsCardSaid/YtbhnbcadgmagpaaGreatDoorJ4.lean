import Derived.Test.YtbhnbcadgmagpaaGreatDoorBig
import Derived.Test.YtbhnbcadgmagpaaGreatDoorJ1
import Derived.Test.YtbhnbcadgmagpaaGreatDoorRows
import Derived.Test.YtbhnbcadgmagpaaGreatDoorJ3
set_option linter.unusedVariables false
set_option linter.unusedSimpArgs false
set_option maxHeartbeats 4000000
set_option maxRecDepth 100000
namespace Go.Proofs.YtbhnbcadgmagpaaGreatDoor
namespace cB
def nZ(a p b q:Nat):Bool:=decide (a<b\/(a=b/\p<q))
theorem Nc{a p b q:Nat}(h:a≠b):nZ a p b q=decide (a<b):=decide_eq_decide.2 zo
theorem Nd{a p q:Nat}:nZ a p a q=decide (p<q):=decide_eq_decide.2 zo
theorem Eu{a p b q:Nat}(hp:p<65536)(hq:q<65536):nZ a p b q=decide (a*65536+p<b*65536+q):=by
 exact decide_eq_decide.2 zo
def step(h b:Nat):Nat:=(h ^^^ b)*16777619 % 4294967296
theorem Qp(x:Nat):x % 4294967296<4294967296:=zo
theorem Nf(x:Nat):x % 256<256:=zo
theorem ye(h b:Nat):step h b<4294967296:=by unfold step;exact Qp _
def lT(n i:Nat):Nat:=n / 256 ^ i % 256
theorem Ja(n i:Nat):lT n i<256:=by unfold lT;exact Nf _
def l6(s:Nat->Nat->Nat)(n:Nat):Nat->Nat->Nat
 | 0,h=>h
 | k+1,h=>l6 s n k (s h (lT n k))
section
variable (s:Nat->Nat->Nat)
theorem nj(hs:∀h b,s h b<4294967296)(n k h:Nat)(hh:h<4294967296):l6 s n k h<4294967296:=by
 induction k generalizing h with
 | zero=>exact hh
 | succ k ih=>exact ih _ (hs _ _)
theorem FF(n k h:Nat):l6 s n (k+1) h=l6 s n k (s h (lT n k)):=rfl
def Jb(h0 a b p q r:Nat):Nat:=l6 s q 2 (l6 s b 4 (l6 s p 2 (l6 s a 4 (l6 s r 1 h0))))
end
abbrev mc(n k h:Nat):Nat:=l6 step n k h
theorem pF(n k h:Nat)(hh:h<4294967296):mc n k h<4294967296:=nj step ye n k h hh
theorem zV(s:Nat->Nat->Nat){h0 a b p q r m0 m1 m2 m3 m4:Nat}(e0:l6 s r 1 h0=m0)(e1:l6 s a 4 m0=m1)(e2:l6 s p 2 m1=m2)(e3:l6 s b 4 m2=m3)(e4:l6 s q 2 m3=m4):Jb s h0 a b p q r=m4:=by
 subst e0 e1 e2 e3 e4;rfl
def kj(a b p q r:Nat):Nat:=Jb step 2166136261 a b p q r
theorem Jc(s:Nat->Nat->Nat)(hs:∀h b,s h b<4294967296)(h0 a b p q r:Nat)(hh:h0<4294967296):Jb s h0 a b p q r<4294967296 :=
 nj s hs _ _ _ (nj s hs _ _ _ (nj s hs _ _ _ (nj s hs _ _ _ (nj s hs _ _ _ hh))))
theorem zW{a b p q r m0 m1 m2 m3 m4:Nat}(e0:mc r 1 2166136261=m0)(e1:mc a 4 m0=m1)(e2:mc p 2 m1=m2)(e3:mc b 4 m2=m3)(e4:mc q 2 m3=m4):kj a b p q r=m4:=zV step e0 e1 e2 e3 e4
theorem Jd(a b p q r:Nat):kj a b p q r<4294967296:=Jc step ye _ a b p q r zd
def bN(s:Int):Bool:=decide (s∈[1,2,4,8,16,32,64,128,256,512,1024,2048,4096])
def tL(h:Nat)(s:Int):Int:=if bN s=true then(h:Int) % s else 0
theorem ko{s:Int}(h:bN s=true):1<=s/\s<=4096:=by
 have:s∈[1,2,4,8,16,32,64,128,256,512,1024,2048,4096]:=by simpa[bN]using h
 simp only[List.mem_cons,List.not_mem_nil,or_false]at this;omega
theorem zX:∀n:Fin 4096,(((n.val+1) &&& n.val)==0)=bN ((n.val+1:Nat):Int):=by decide +kernel
theorem Ng(n:Nat)(h1:1<=n)(h2:n<=4096):((n &&& (n - 1))==0)=bN (n:Int):=by
 have:=zX ⟨n - 1,by omega⟩;simp only[show n - 1+1=n by omega]at this;exact this
theorem Nh{h:Nat}{s:Int}(hs:bN s=false):tL h s=0:=by unfold tL;rw[if_neg (by rw[hs];decide)]
theorem zY{h:Nat}{s:Int}(hs:bN s=true):tL h s=(h:Int) % s:=by unfold tL;rw[if_pos hs]
theorem wO{s:Int}(h:s<1\/4096<s):bN s=false:=by
 rcases e:bN s with _ | _
 ·rfl
 ·have:=ko e;omega
def lU(a b p q r a2 b2 p2 q2 r2:Nat):Bool:=if r≠r2 then decide (r<r2)else if a≠a2\/p≠p2 then nZ a p a2 p2 else nZ b q b2 q2
def zZ(a b p q r:Nat):Nat:=((r*281474976710656+(a*65536+p))*281474976710656)+(b*65536+q)
theorem z7{a b p q r a2 b2 p2 q2 r2:Nat}(ha:a<4294967296)(hb:b<4294967296)(hp:p<65536)(hq:q<65536)(XJ:a2<4294967296)(aZ:b2<4294967296)(hp2:p2<65536)(CJ:q2<65536) :
  lU a b p q r a2 b2 p2 q2 r2=decide (zZ a b p q r<zZ a2 b2 p2 q2 r2):=by
 unfold lU zZ
 rw[Eu hp hp2,Eu hq CJ]
 by_cases h1:r=r2
 ·rw[if_neg zo];by_cases h2:a=a2/\p=p2
  ·rw[if_neg zo];exact decide_eq_decide.2 zo
  ·rw[if_pos zo];exact decide_eq_decide.2 zo
 ·rw[if_pos h1];exact decide_eq_decide.2 zo
theorem z8{a b p q r a2 b2 p2 q2 r2:Nat}(ha:a<4294967296)(hb:b<4294967296)(hp:p<65536)(hq:q<65536)(XJ:a2<4294967296)(aZ:b2<4294967296)(hp2:p2<65536)(CJ:q2<65536)
  (h:zZ a b p q r=zZ a2 b2 p2 q2 r2):a=a2/\b=b2/\p=p2/\q=q2/\r=r2:=by
 unfold zZ at h;omega
end cB
end Go.Proofs.YtbhnbcadgmagpaaGreatDoor
namespace Go.Proofs.YtbhnbcadgmagpaaGreatDoor
open Go.Lib (hid)
open Go.ChangeShapes Go.WideShapes Go.ChangeAt Go.RowKit Go.aN
namespace Ky
open cB (nZ lT mc l6 bN)
theorem ax{k:IntKind}{a b:Int}(h:a=b):Ending.returned (.int k a) = .returned (.int k b):=by rw[h]
abbrev eI(a b p q r:Int):Array Value:=#[.int .u32 a,.int .u32 b,.int .u16 p,.int .u16 q,.int .u8 r]
abbrev epc(a p:Int):Array Value:=#[.int .u32 a,.int .u32 p]
abbrev qS(a b c d e f h:Int):Array Value:=#[.int .u8 a,.int .u32 b,.int .u32 c,.int .u16 d,.int .u16 e,.int .u8 f,.int .u8 h]
section
variable {w w':World}{g:Nat}{a b c d e f h:Int}{t:TypeId}
theorem fK(H:aF w g (qS a b c d e f h) t):w.cell? ⟨g,0,none⟩=some (.int .u8 a)/\w.cell? ⟨g,1,none⟩=some (.int .u32 b)/\w.cell? ⟨g,2,none⟩=some (.int .u32 c)/\w.cell? ⟨g,3,none⟩=some (.int .u16 d) ∧
  w.cell? ⟨g,4,none⟩=some (.int .u16 e)/\w.cell? ⟨g,5,none⟩=some (.int .u8 f)/\w.cell? ⟨g,6,none⟩=some (.int .u8 h):=by
 refine⟨?_,?_,?_,?_,?_,?_,?_⟩ <;> exact H.cell _ _ rfl
theorem jb(H:aF w g (qS a b c d e f h) t):w.frozen? ⟨g,0,none⟩=false/\w.frozen? ⟨g,1,none⟩=false/\w.frozen? ⟨g,2,none⟩=false/\w.frozen? ⟨g,3,none⟩=false ∧
  w.frozen? ⟨g,4,none⟩=false/\w.frozen? ⟨g,5,none⟩=false/\w.frozen? ⟨g,6,none⟩=false:=by
 refine⟨?_,?_,?_,?_,?_,?_,?_⟩ <;> exact H.frozen _
theorem bZ(H:aF w g (eI a b c d e) t):w.cell? ⟨g,0,none⟩=some (.int .u32 a)/\w.cell? ⟨g,1,none⟩=some (.int .u32 b)/\w.cell? ⟨g,2,none⟩=some (.int .u16 c)/\w.cell? ⟨g,3,none⟩=some (.int .u16 d) ∧
  w.cell? ⟨g,4,none⟩=some (.int .u8 e):=by
 refine⟨?_,?_,?_,?_,?_⟩ <;> exact H.cell _ _ rfl
theorem xd(H:aF w g (eI a b c d e) t):w.frozen? ⟨g,0,none⟩=false/\w.frozen? ⟨g,1,none⟩=false/\w.frozen? ⟨g,2,none⟩=false/\w.frozen? ⟨g,3,none⟩=false/\w.frozen? ⟨g,4,none⟩=false:=by
 refine⟨?_,?_,?_,?_,?_⟩ <;> exact H.frozen _
abbrev JF(w:World)(g:Nat)(a b c d e:Int):World :=
 ((((w.setCell ⟨g,0,none⟩ (.int .u32 a)).setCell ⟨g,1,none⟩ (.int .u32 b)).setCell ⟨g,2,none⟩ (.int .u16 c)).setCell ⟨g,3,none⟩ (.int .u16 d)).setCell ⟨g,4,none⟩ (.int .u8 e)
theorem AA(H:aF w g (eI a b c d e) t)(a' b' c' d' e':Int):aF (JF w g a' b' c' d' e') g (eI a' b' c' d' e') t :=
 by
 have h0:=H.set' 0 (.int .u32 a') (cs':=eI a' b c d e) rfl
 have h1:=h0.set' 1 (.int .u32 b') (cs':=eI a' b' c d e) rfl
 have h2:=h1.set' 2 (.int .u16 c') (cs':=eI a' b' c' d e) rfl
 have h3:=h2.set' 3 (.int .u16 d') (cs':=eI a' b' c' d' e) rfl
 exact h3.set' 4 (.int .u8 e') rfl
theorem pW{B:Nat}{w0:World}(hb:Below B w0 w)(hg:B<=g)(a b c d e:Int):Below B w0 (JF w g a b c d e) :=
 ((((hb.setCell (p:=⟨g,0,none⟩) hg _).setCell (p:=⟨g,1,none⟩) hg _).setCell (p:=⟨g,2,none⟩) hg _).setCell (p:=⟨g,3,none⟩) hg _).setCell (p:=⟨g,4,none⟩) hg _
abbrev tY(w:World)(g:Nat)(a b c d e f h:Int):World :=
 ((((((w.setCell ⟨g,0,none⟩ (.int .u8 a)).setCell ⟨g,1,none⟩ (.int .u32 b)).setCell ⟨g,2,none⟩ (.int .u32 c)).setCell ⟨g,3,none⟩ (.int .u16 d)).setCell ⟨g,4,none⟩ (.int .u16 e)).setCell ⟨g,5,none⟩ (.int .u8 f)).setCell ⟨g,6,none⟩ (.int .u8 h)
theorem yt{cs:Array Value}{k:Nat}(H:aF w g cs t)(hk:g≠k)(a b c d e f h:Int):aF (tY w k a b c d e f h) g cs t :=
 ((((((H.other k 0 hk _).other k 1 hk _).other k 2 hk _).other k 3 hk _).other k 4 hk _).other k 5 hk _).other k 6 hk _
theorem b_{B:Nat}{w0:World}(hb:Below B w0 w)(hg:B<=g)(a b c d e f h:Int):Below B w0 (tY w g a b c d e f h) :=
 ((((((hb.setCell (p:=⟨g,0,none⟩) hg _).setCell (p:=⟨g,1,none⟩) hg _).setCell (p:=⟨g,2,none⟩) hg _).setCell (p:=⟨g,3,none⟩) hg _).setCell (p:=⟨g,4,none⟩) hg _).setCell (p:=⟨g,5,none⟩) hg _).setCell (p:=⟨g,6,none⟩) hg _
end
theorem qT(a p b q:Nat)(g:Bool)(hg:nZ a p b q=g)(W:World) :
  Calls Tryz.prog 100 #[.agg (epc a p),.agg (epc b q)] W λe w'=>e = .returned (.bool g)/\Below W.heap.size W w':=by
 have HX:=hid ((aF.box W (epc a p) 166).alloc (.cells (epc b q) 166))
 have HY:=hid (aF.n5 W (.cells (epc a p) 166) (epc b q) 166)
 have HB:=hid (((Below.refl _ W).alloc zl (.cells (epc a p) 166)).alloc zs (.cells (epc b q) 166))
 have x0:=HX.out.cell 0 _ rfl
 have x1:=HX.out.cell 1 _ rfl
 have y0:=HY.out.cell 0 _ rfl
 have y1:=HY.out.cell 1 _ rfl
 by_cases h:a=b
 ·subst h;rw[cB.Nd]at hg;have d0:((a:Int)!=a)=false:=zs;have HG:=hid hg;clear hg;go_in;go_wp2;go_ret;exact⟨by rw[← HG.out];rfl,HB.out⟩
 ·rw[cB.Nc h]at hg;have d0:((a:Int)!=b)=true:=zt;have HG:=hid hg;clear hg h;go_in;go_wp2;go_ret;exact⟨by rw[← HG.out];rfl,HB.out⟩
theorem gD(a b p q r:Nat)(hp:p<65536)(hq:q<65536)(i:Int)(x y:Nat)(hi:i=0/\a=x/\p=y\/i=1/\b=x/\q=y)(W:World) :
  Calls Tryz.prog 181 #[.agg (eI a b p q r),.int .i64 i] W λe w'=>e = .returned (.agg (epc x y))/\Below W.heap.size W w':=by
 have HX:=hid ((aF.box W (eI a b p q r) 87).alloc (.cells (epc 0 0) 166)).drew
 have HY:=hid (aF.n5 W (.cells (eI a b p q r) 87) (epc 0 0) 166).drew
 have HB:=hid (((Below.refl _ W).alloc zl (.cells (eI a b p q r) 87)).alloc zs (.cells (epc 0 0) 166)).drew
 rcases hi with⟨rfl,rfl,rfl⟩ | ⟨rfl,rfl,rfl⟩
 ·go_in;go_wp2;obtain⟨w1,hw1⟩:∃w1,w1=((W.alloc (.cells (eI a b p q r) 87)).alloc (.cells (epc 0 0) 166)).drew:=⟨_,rfl⟩;refine aD 10 zk zk w1 hw1 ?_;rw[← hw1]at HX HY HB;clear hw1;have x0:=HX.out.cell 0 _ rfl;have x1:=HX.out.cell 2 _ rfl;have y0:=HY.out.cell 0 _ rfl;have y1:=HY.out.cell 1 _ rfl;have f0:=HY.out.frozen 0;have f1:=HY.out.frozen 1
  have we:IntKind.u32.wrap (p:Int)=(p:Int):=by rw[IntKind.wrap_u32'];omega
  simp only[List.take_succ_cons,List.take_zero,List.drop_succ_cons,List.drop_zero]
  repeat still_step
  refine wpStill_nil ?_;go_wp2;have hr:=(HY.out.set 0 (.int .u32 (a:Int))).set 1 (.int .u32 (p:Int));have r0:=hr.cell 0 (.int .u32 (a:Int)) rfl;have r1:=hr.cell 1 (.int .u32 (p:Int)) rfl;exact bodyPost_ret (v:=.agg (epc a p)) (by simp[results,Tryz.results181,go_sem,r0,r1]) rfl ⟨rfl,(HB.out.setCell zs _).setCell zs _⟩
 ·go_in;go_wp2;obtain⟨w1,hw1⟩:∃w1,w1=((W.alloc (.cells (eI a b p q r) 87)).alloc (.cells (epc 0 0) 166)).drew:=⟨_,rfl⟩;refine aD 10 zk zk w1 hw1 ?_;rw[← hw1]at HX HY HB;clear hw1;have x0:=HX.out.cell 1 _ rfl;have x1:=HX.out.cell 3 _ rfl;have y0:=HY.out.cell 0 _ rfl;have y1:=HY.out.cell 1 _ rfl;have f0:=HY.out.frozen 0;have f1:=HY.out.frozen 1
  have we:IntKind.u32.wrap (q:Int)=(q:Int):=by rw[IntKind.wrap_u32'];omega
  simp only[List.take_succ_cons,List.take_zero,List.drop_succ_cons,List.drop_zero]
  repeat still_step
  refine wpStill_nil ?_;go_wp2;have hr:=(HY.out.set 0 (.int .u32 (b:Int))).set 1 (.int .u32 (q:Int));have r0:=hr.cell 0 (.int .u32 (b:Int)) rfl;have r1:=hr.cell 1 (.int .u32 (q:Int)) rfl;exact bodyPost_ret (v:=.agg (epc b q)) (by simp[results,Tryz.results181,go_sem,r0,r1]) rfl ⟨rfl,(HB.out.setCell zs _).setCell zs _⟩
def Vb(k:Nat):Nat:=if k=8 then 0 else if k=0 then 8 else k
theorem yu(k x:Nat)(hx:Vb k=x)(W:World) :
  Calls Tryz.prog 143 #[.int .u8 (k:Int)] W λe w'=>e = .returned (.int .u8 (x:Int))/\W=w':=by
 unfold Vb at hx
 by_cases h8:k=8
 ·rw[if_pos h8]at hx;subst h8 hx;go_in;go_wp2;go_ret;exact⟨rfl,rfl⟩
 ·rw[if_neg h8]at hx;by_cases h0:k=0
  ·rw[if_pos h0]at hx;subst h0 hx;clear h8;go_in;go_wp2;go_ret;exact⟨rfl,rfl⟩
  ·rw[if_neg h0]at hx;subst hx;have d8:((k:Int)==8)=false:=zt;have d0:((k:Int)==0)=false:=zt;clear h0 h8;go_in;go_wp2;go_ret;exact⟨rfl,rfl⟩
theorem Nw(n i:Nat):(n:Int) / 2 ^ (8*i) % 256=(lT n i:Int):=by
 unfold lT;rw[Int.pow_mul];simp
theorem Nx(h b:Nat)(hh:h<4294967296)(hb:b<256):bits .xor .u32 (h:Int) (b:Int)*16777619 % 4294967296=(cB.step h b:Int):=by
 rw[u32_xor_nat h b hh zo];unfold cB.step;generalize h ^^^ b=x;omega
theorem Ny(h n k:Nat)(hh:h<4294967296)(hn:n<4294967296)(hk:k<=4)(x:Nat)(hx:mc n k h=x)(W:World) :
  Calls Tryz.prog 144 #[.int .u32 (h:Int),.int .u32 (n:Int),.int .i64 (k:Int)] W λe w'=>e = .returned (.int .u32 (x:Int))/\W=w':=by
 have HX:=hid hx
 clear hx
 go_in
 go_wp2
 go_loop [0,7] (λv i=>∃m g:Nat,m<=4/\g<4294967296/\i = .int .i64 ((m:Int) - 1)/\v = .int .u32 (g:Int)/\Hid (mc n m g=x)) (λ_ i=>(RowKit.intOf i+1).toNat)
 case atStart=>exact⟨k,h,hk,hh,rfl,rfl,HX⟩
 case round =>
  obtain⟨m,g,hm,hg,rfl,rfl,hX⟩:=hrel
  rcases m with _ | m
  ·go_wp2;go_ret;exact⟨by rw[← hX.out];rfl,rfl⟩
  ·rw[show(((m+1:Nat):Int) - 1)=(m:Int) by omega];have HS:=hid (Nx g (lT n m) hg (cB.Ja n m));have XL:=hid ((cB.FF cB.step n m g).symm.trans hX.out);have hl:=cB.ye g (lT n m);clear hX;generalize cB.step g (lT n m)=z at HS XL hl;go_wp2;go_round
   case rel=>exact⟨m,z,by omega,hl,rfl,by rw[Nw,HS.out],XL⟩
   case measure=>simp[RowKit.intOf]
theorem AB(a b:Nat)(ha:a<9223372036854775808)(hb:b<9223372036854775808):bits .and .i64 (a:Int) (b:Int)=((a &&& b:Nat):Int):=by
 have hx:a &&& b<2 ^ 63:=Nat.and_lt_two_pow _ zo;show IntKind.i64.wrap ((BitVec.ofInt 64 (a:Int) &&& BitVec.ofInt 64 (b:Int)).toNat:Int)=_;rw[BitVec.toNat_and,ofInt_u64 a zo,ofInt_u64 b zo];exact IntWalk.i64_in _ zo
theorem tZ(n:Nat)(h1:1<=n)(h2:n<=4096):(bits .and .i64 (n:Int) ((n:Int) - 1)==0)=bN (n:Int):=by
 rw[show(n:Int) - 1=((n - 1:Nat):Int) by omega,AB n (n - 1) zo zo,← cB.Ng n h1 h2];generalize n &&& (n - 1)=x;rw[Bool.eq_iff_iff];simp
theorem AC(n:Nat)(h1:1<=n)(h2:n<=4096)(g:Bool)(hg:bN (n:Int)=g)(W:World) :
  Calls Tryz.prog 102 #[.int .i64 (n:Int)] W λe w'=>e = .returned (.bool g)/\W=w':=by
 have HG:=hid ((tZ n h1 h2).trans hg)
 clear hg
 go_in
 go_wp2
 go_ret
 exact⟨by rw[← HG.out];rfl,rfl⟩
end Ky
end Go.Proofs.YtbhnbcadgmagpaaGreatDoor
namespace Go.Proofs.YtbhnbcadgmagpaaGreatDoor
open Go.ChangeShapes Go.WideShapes Go.ChangeAt Go.RowKit Go.aN
namespace Ky
theorem SL:Tryz.prog.underlying 166=some (.array 2 73):=zk
theorem xe:Tryz.prog.underlying 87=some (.struct (Tryz.prog.fieldsOf 87)):=zk
theorem JG:Tryz.prog.stoodInHeld 87=false:=zk
theorem JH:(Tryz.prog.fieldsOf 87).toList.map (λf=>(f.type,f.offset))=[(84,0),(85,2),(5,4)]:=zk
theorem AD:(Tryz.prog.fieldsOf 87).toList.all (λf=>f.name != "_")=true:=zk
theorem nC:Tryz.prog.cellsOf 73=1:=zk
theorem nD:Tryz.prog.cellsOf 76=1:=zk
theorem AE:(Tryz.prog.info? 73).isSome=true:=zk
theorem AG:(Tryz.prog.info? 76).isSome=true:=zk
theorem JI:Tryz.prog.underlying 84=some (.array 2 73):=zk
theorem JJ:Tryz.prog.underlying 85=some (.array 2 76):=zk
theorem Pw(d:Nat)(t:TypeId)(ht:Tryz.prog.underlying t=some (.array 2 73))(a p b q:Int)(w:World):(Op.equalIn (d+2) t (.agg (epc a p)) (.agg (epc b q))).run Tryz.prog w = .ok (decide (a=b/\p=q)) w:=by
 obtain⟨i4,h4⟩:=Option.isSome_iff_exists.1 AE;rw[run_equalIn_array w (d+1) _ _ ht h4];by_cases h1:a=b
 ·by_cases h2:p=q
  ·simp[nC,Op.eqItems,List.range,List.range.loop,go_sem,h1,h2]
  ·simp[nC,Op.eqItems,List.range,List.range.loop,go_sem,h1,h2]
 ·simp[nC,Op.eqItems,List.range,List.range.loop,go_sem,h1]
theorem SM(d:Nat)(a p b q:Int)(w:World):(Op.equalIn (d+2) 85 (.agg #[.int .u16 a,.int .u16 p]) (.agg #[.int .u16 b,.int .u16 q])).run Tryz.prog w = .ok (decide (a=b/\p=q)) w:=by
 obtain⟨i4,h4⟩:=Option.isSome_iff_exists.1 AG;rw[run_equalIn_array w (d+1) _ _ JJ h4];by_cases h1:a=b
 ·by_cases h2:p=q
  ·simp[nD,Op.eqItems,List.range,List.range.loop,go_sem,h1,h2]
  ·simp[nD,Op.eqItems,List.range,List.range.loop,go_sem,h1,h2]
 ·simp[nD,Op.eqItems,List.range,List.range.loop,go_sem,h1]
theorem Px(a p b q:Int)(w:World):(Op.equalIn 10000 166 (.agg (epc a p)) (.agg (epc b q))).run Tryz.prog w = .ok (decide (a=b/\p=q)) w:=Pw 9998 _ SL a p b q w
theorem SN(a b p q r a2 b2 p2 q2 r2:Int)(w:World):(Op.equalIn 10000 87 (.agg (eI a b p q r)) (.agg (eI a2 b2 p2 q2 r2))).run Tryz.prog w = .ok (decide (a=a2/\b=b2/\p=p2/\q=q2/\r=r2)) w:=by
 rw[show(10000:Nat)=9999+1 from rfl,run_equalIn_struct w 9999 _ _ _ xe JG];have hl:=JH;have hn:=AD;generalize (Tryz.prog.fieldsOf 87).toList=l at hl hn ⊢
 rcases l with _ | ⟨f1,_ | ⟨f2,_ | ⟨f3,_ | ⟨f4,l⟩⟩⟩⟩ <;> simp at hl hn
 obtain⟨⟨t1,o1⟩,⟨t2,o2⟩,t3,o3⟩:=hl;obtain⟨n1,n2,n3⟩:=hn
 have c1:∀(a b p q r:Int),(part 84 (eI a b p q r) 0).run Tryz.prog w = .ok (.agg (epc a b)) w:=λa b p q r=>by simp[go_sem]
 have c2:∀(a b p q r:Int),(part 85 (eI a b p q r) 2).run Tryz.prog w = .ok (.agg #[.int .u16 p,.int .u16 q]) w:=λa b p q r=>by simp[go_sem]
 have c3:∀(a b p q r:Int),(part 5 (eI a b p q r) 4).run Tryz.prog w = .ok (.int .u8 r) w:=λa b p q r=>by simp[go_sem]
 have q1:(Op.equalIn 9999 84 (.agg (epc a b)) (.agg (epc a2 b2))).run Tryz.prog w = .ok (decide (a=a2/\b=b2)) w:=Pw 9997 _ JI a b a2 b2 w;have Vc:(Op.equalIn 9999 85 (.agg #[.int .u16 p,.int .u16 q]) (.agg #[.int .u16 p2,.int .u16 q2])).run Tryz.prog w = .ok (decide (p=p2/\q=q2)) w:=SM 9997 p q p2 q2 w;have q3:(Op.equalIn 9999 5 (.int .u8 r) (.int .u8 r2)).run Tryz.prog w = .ok (r==r2) w:=run_equalIn_int w 9998 _ .u8 .u8 r r2 zk;simp only[Op.eqFields,ne_eq,n1,n2,n3,not_false_eq_true,if_true,t1,t2,t3,o1,o2,o3,Sem.run_bind,c1,c2,c3,Result.andThen_ok,q1,Vc,q3,Sem.run_ite,Sem.run_pure];by_cases h1:a=a2/\b=b2
 ·by_cases h2:p=p2/\q=q2
  ·by_cases h3:r=r2
   ·simp[h1,h2,h3]
   ·simp[h1,h2,h3]
  ·have h4 : ¬(a=a2/\b=b2/\p=p2/\q=q2/\r=r2):=λh=>h2 ⟨h.2.2.1,h.2.2.2.1⟩;rw[decide_eq_true h1,decide_eq_false h2,decide_eq_false h4];simp
 ·have h4 : ¬(a=a2/\b=b2/\p=p2/\q=q2/\r=r2):=λh=>h1 ⟨h.1,h.2.1⟩;rw[decide_eq_false h1,decide_eq_false h4];simp
theorem Nz(a p:Int)(w:World):(Op.equalIn 10000 166 (.agg #[.int .u32 a,.int .u32 p]) (.agg #[.int .u32 a,.int .u32 p])).run Tryz.prog w = .ok true w:=(Px a p a p w).trans zs
theorem EE(a p b q:Int)(h : ¬(a=b/\p=q))(w:World):(Op.equalIn 10000 166 (.agg #[.int .u32 a,.int .u32 p]) (.agg #[.int .u32 b,.int .u32 q])).run Tryz.prog w = .ok false w:=(Px a p b q w).trans (by rw[decide_eq_false h])
end Ky
end Go.Proofs.YtbhnbcadgmagpaaGreatDoor
namespace Go.Proofs.YtbhnbcadgmagpaaGreatDoor
open Go.Lib (hid)
open Go.ChangeShapes Go.WideShapes Go.ChangeAt Go.RowKit Go.aN
namespace Ky
open cB (nZ lT mc l6 bN kj tL lU)
def Ve(pr kd:Nat):Nat:=if pr=1 then Vb kd else kd
theorem JP(pr sr ds sp dp f kd x:Nat)(hx:Ve pr kd=x)(W:World) :
  Calls Tryz.prog 101 #[.agg (qS pr sr ds sp dp f kd)] W λe w'=>e = .returned (.agg (qS pr ds sr dp sp f x))/\Below W.heap.size W w':=by
 have HX:=hid ((aF.box W (qS pr sr ds sp dp f kd) 95).alloc (.cells (qS 0 0 0 0 0 0 0) 95))
 have HY:=hid (aF.n5 W (.cells (qS pr sr ds sp dp f kd) 95) (qS 0 0 0 0 0 0 0) 95)
 obtain⟨x0,x1,x2,x3,x4,x5,x6⟩:=fK HX.out
 obtain⟨f0,f1,f2,f3,f4,f5,f6⟩:=jb HX.out
 obtain⟨g0,g1,g2,g3,g4,g5,g6⟩:=jb HY.out
 obtain⟨y0,y1,y2,y3,y4,y5,y6⟩:=fK HY.out
 unfold Ve at hx
 by_cases h1:pr=1
 ·rw[if_pos h1]at hx;subst h1;have HK:=hid (yu kd x hx);clear hx;go_in;go_wp2_with fail;refine(HK.out _).mono ?_;rintro e w' ⟨rfl,rfl⟩;go_wp2_with fail;have HR:=aF.n5 W (.cells (qS 1 ds sr dp sp f x) 95) (qS 1 ds sr dp sp f x) 95;obtain⟨r0,r1,r2,r3,r4,r5,r6⟩:=fK HR;exact bodyPost_ret (v:=.agg (qS 1 ds sr dp sp f x)) (by simp[results,Tryz.results101,go_sem,r0,r1,r2,r3,r4,r5,r6]) rfl ⟨rfl,((Below.refl _ W).alloc zl _).alloc zs _⟩
 ·rw[if_neg h1]at hx;subst hx;have d1:((pr:Int)==1)=false:=zt;clear h1;go_in;go_wp2_with fail;have HR:=aF.n5 W (.cells (qS pr ds sr dp sp f kd) 95) (qS pr ds sr dp sp f kd) 95;obtain⟨r0,r1,r2,r3,r4,r5,r6⟩:=fK HR;exact bodyPost_ret (v:=.agg (qS pr ds sr dp sp f kd)) (by simp[results,Tryz.results101,go_sem,r0,r1,r2,r3,r4,r5,r6]) rfl ⟨rfl,((Below.refl _ W).alloc zl _).alloc zs _⟩
theorem yw(pr sr ds sp dp f kd:Nat)(hsp:sp<65536)(hdp:dp<65536)(a b p q:Nat)(g:Bool)(hg:nZ ds dp sr sp=g)(hk:g=true/\ds=a/\sr=b/\dp=p/\sp=q\/g=false/\sr=a/\ds=b/\sp=p/\dp=q)(W:World) :
  Calls Tryz.prog 65 #[.agg (qS pr sr ds sp dp f kd)] W λe w'=>e = .returned (.tuple #[.agg (eI a b p q pr),.bool g])/\Below W.heap.size W w':=by
 have HX:=hid ((aF.box W (qS pr sr ds sp dp f kd) 95).alloc (.cells (eI 0 0 0 0 0) 87))
 have HY:=hid (aF.n5 W (.cells (qS pr sr ds sp dp f kd) 95) (eI 0 0 0 0 0) 87)
 have HB:=hid (((Below.refl _ W).alloc zl (.cells (qS pr sr ds sp dp f kd) 95)).alloc zs (.cells (eI 0 0 0 0 0) 87))
 obtain⟨x0,x1,x2,x3,x4,x5,x6⟩:=fK HX.out
 obtain⟨f0,f1,f2,f3,f4,f5,f6⟩:=jb HX.out
 have HL:=hid (qT ds dp sr sp g hg)
 clear hg
 go_in
 go_wp2_with fail
 refine(HL.out _).mono ?_
 rintro e w1 ⟨rfl,aK⟩
 have CA:=hid (HX.out.next aK)
 have SO:=hid (HY.out.next aK)
 have dF:=hid (HB.out.trans (aK.mono HB.out.size))
 clear aK HX HY HB HL x0 x1 x2 x3 x4 x5 x6 f0 f1 f2 f3 f4 f5 f6
 obtain⟨x0,x1,x2,x3,x4,x5,x6⟩:=fK CA.out
 obtain⟨f0,f1,f2,f3,f4,f5,f6⟩:=jb CA.out
 obtain⟨y0,y1,y2,y3,y4⟩:=bZ SO.out
 obtain⟨g0,g1,g2,g3,g4⟩:=xd SO.out
 rcases hk with⟨rfl,rfl,rfl,rfl,rfl⟩ | ⟨rfl,rfl,rfl,rfl,rfl⟩
 ·obtain⟨z,hz⟩:∃z,Ve pr kd=z:=⟨_,rfl⟩;have HT:=hid (JP pr sr ds sp dp f kd z hz);clear hz;go_wp2_with fail;refine(HT.out _).mono ?_;rintro e w2 ⟨rfl,aZ⟩;have p_:=hid (CA.out.next aZ);have Sg:=hid (SO.out.next aZ);have dG:=hid (dF.out.trans (aZ.mono dF.out.size));clear aZ CA SO dF HT x0 x1 x2 x3 x4 x5 x6 f0 f1 f2 f3 f4 f5 f6 y0 y1 y2 y3 y4 g0 g1 g2 g3 g4;obtain⟨x0,x1,x2,x3,x4,x5,x6⟩:=fK p_.out;obtain⟨f0,f1,f2,f3,f4,f5,f6⟩:=jb p_.out;obtain⟨y0,y1,y2,y3,y4⟩:=bZ Sg.out;obtain⟨g0,g1,g2,g3,g4⟩:=xd Sg.out;go_wp2_with fail;have HR:=AA (yt Sg.out (k:=W.heap.size) zs pr ds sr dp sp f z) ds sr dp sp pr;obtain⟨r0,r1,r2,r3,r4⟩:=bZ HR;exact bodyPost_ret (v:=.tuple #[.agg (eI ds sr dp sp pr),.bool true]) (by simp[results,Tryz.results65,go_sem,r0,r1,r2,r3,r4]) rfl ⟨rfl,pW (b_ dG.out zl _ _ _ _ _ _ _) zs _ _ _ _ _⟩
 ·go_wp2_with fail;have HR:=AA SO.out sr ds sp dp pr;obtain⟨r0,r1,r2,r3,r4⟩:=bZ HR;exact bodyPost_ret (v:=.tuple #[.agg (eI sr ds sp dp pr),.bool false]) (by simp[results,Tryz.results65,go_sem,r0,r1,r2,r3,r4]) rfl ⟨rfl,pW dF.out zs _ _ _ _ _⟩
theorem qa(h n k:Int)(x h' n' k':Nat)(e1:h=(h':Int))(e2:n=(n':Int))(e3:k=(k':Int))(hh:h'<4294967296)(hn:n'<4294967296)(hk:k'<=4)(hx:mc n' k' h'=x)(W:World) :
  Calls Tryz.prog 144 #[.int .u32 h,.int .u32 n,.int .i64 k] W λe w'=>e = .returned (.int .u32 (x:Int))/\W=w':=by
 subst e1 e2 e3
 exact Ny h' n' k' hh hn hk x hx W
def SP(h0 h1 h2:Int)(t i:Value):Prop:=i = .int .i64 0/\t = .int .u32 h0\/i = .int .i64 1/\t = .int .u32 h1\/i = .int .i64 2/\t = .int .u32 h2
theorem JQ(a b p q r:Nat)(ha:a<4294967296)(hb:b<4294967296)(hp:p<65536)(hq:q<65536)(hr:r<256)(x:Nat)(hx:kj a b p q r=x)(W:World) :
  Calls Tryz.prog 103 #[.agg (eI a b p q r)] W λe w'=>e = .returned (.int .u32 (x:Int))/\Below W.heap.size W w':=by
 have HX:=hid (aF.box W (eI a b p q r) 87)
 have HB:=hid ((Below.refl _ W).alloc zl (.cells (eI a b p q r) 87))
 obtain⟨x0,x1,x2,x3,x4⟩:=bZ HX.out
 obtain⟨m0,e0⟩:∃m,mc r 1 2166136261=m:=⟨_,rfl⟩
 obtain⟨m1,e1⟩:∃m,mc a 4 m0=m:=⟨_,rfl⟩
 obtain⟨m2,e2⟩:∃m,mc p 2 m1=m:=⟨_,rfl⟩
 obtain⟨m3,e3⟩:∃m,mc b 4 m2=m:=⟨_,rfl⟩
 obtain⟨m4,e4⟩:∃m,mc q 2 m3=m:=⟨_,rfl⟩
 have l0:m0<4294967296:=e0▸cB.pF _ _ _ zd
 have l1:m1<4294967296:=e1▸cB.pF _ _ _ l0
 have l2:m2<4294967296:=e2▸cB.pF _ _ _ l1
 have l3:m3<4294967296:=e3▸cB.pF _ _ _ l2
 have l4:m4<4294967296:=e4▸cB.pF _ _ _ l3
 have HE:=hid ((cB.zW e0 e1 e2 e3 e4).symm.trans hx)
 have M0:=hid (qa 2166136261 r 1 m0 2166136261 r 1 rfl rfl rfl zo zo zo e0)
 have M1:=hid (qa m0 a 4 m1 m0 a 4 rfl rfl rfl l0 ha zo e1)
 have M2:=hid (qa m1 p 2 m2 m1 p 2 rfl rfl rfl l1 zo zo e2)
 have M3:=hid (qa m2 b 4 m3 m2 b 4 rfl rfl rfl l2 hb zo e3)
 have M4:=hid (qa m3 q 2 m4 m3 q 2 rfl rfl rfl l3 zo zo e4)
 clear hx e0 e1 e2 e3 e4 l0 l1 l2 l3 l4
 go_in
 go_wp2_with fail
 refine(M0.out _).mono ?_
 rintro e w' ⟨rfl,rfl⟩
 go_wp2_with fail
 go_loop [3,9] (SP m0 m2 m4) (λ_ i=>2 - (RowKit.intOf i).toNat)
 case atStart=>exact Or.inl ⟨rfl,rfl⟩
 case round =>
  rcases hrel with⟨rfl,rfl⟩ | ⟨rfl,rfl⟩ | ⟨rfl,rfl⟩
  ·go_wp2_with fail;refine(M1.out _).mono ?_;rintro e w' ⟨rfl,rfl⟩;go_wp2_with fail;refine(M2.out _).mono ?_;rintro e w' ⟨rfl,rfl⟩;go_wp2_with fail;go_round
   case rel=>exact Or.inr (Or.inl ⟨rfl,rfl⟩)
   case measure=>simp[RowKit.intOf]
  ·go_wp2_with fail;refine(M3.out _).mono ?_;rintro e w' ⟨rfl,rfl⟩;go_wp2_with fail;refine(M4.out _).mono ?_;rintro e w' ⟨rfl,rfl⟩;go_wp2_with fail;go_round
   case rel=>exact Or.inr (Or.inr ⟨rfl,rfl⟩)
   case measure=>simp[RowKit.intOf]
  ·go_wp2_with fail;go_ret;exact⟨by rw[← HE.out];rfl,HB.out⟩
theorem sD(s:Int)(h1:1<=s)(h2:s<=4096)(g:Bool)(hg:bN s=g)(W:World) :
  Calls Tryz.prog 102 #[.int .i64 s] W λe w'=>e = .returned (.bool g)/\W=w':=by
 obtain⟨n,rfl⟩:=Int.eq_ofNat_of_zero_le (show 0<=s by omega)
 exact AC n zo zo g hg W
theorem FY(a b p q r:Nat)(s:Int)(hs:bN s=false)(W:World) :
  Calls Tryz.prog 66 #[.agg (eI a b p q r),.int .i64 s] W λe w'=>e = .returned (.int .i64 0)/\Below W.heap.size W w':=by
 have HB:=hid ((Below.refl _ W).alloc zl (.cells (eI a b p q r) 87))
 by_cases h1:s<1
 ·clear hs;go_in;go_wp2_with fail;go_ret;exact⟨rfl,HB.out⟩
 ·by_cases h2:4096<s
  ·clear hs;go_in;go_wp2_with fail;go_ret;exact⟨rfl,HB.out⟩
  ·have HP:=hid (sD s zo zo false hs);have d1:1<=s:=zo;have d2:s<=4096:=zo;clear hs h1 h2;go_in;go_wp2_with (refine(HP.out _).mono ?_;rintro e w' ⟨rfl,rfl⟩);go_ret;exact⟨rfl,HB.out⟩
theorem CX(a b p q r:Nat)(s:Int)(hs:bN s=true)(ha:a<4294967296)(hb:b<4294967296)(hp:p<65536)(hq:q<65536)(hr:r<256)(x:Nat)(hx:kj a b p q r=x)(W:World) :
  Calls Tryz.prog 66 #[.agg (eI a b p q r),.int .i64 s] W λe w'=>e = .returned (.int .i64 ((x:Int) % s))/\Below W.heap.size W w':=by
 have HX:=hid (aF.box W (eI a b p q r) 87)
 have HB:=hid ((Below.refl _ W).alloc zl (.cells (eI a b p q r) 87))
 obtain⟨x0,x1,x2,x3,x4⟩:=bZ HX.out
 obtain⟨d1,d2⟩:=cB.ko hs
 have hxl:x<4294967296:=hx▸cB.Jd a b p q r
 have HH:=hid (JQ a b p q r ha hb hp hq hr x hx)
 have HP:=hid (sD s d1 d2 true hs)
 have HF:Hid (wrap64 ((x:Int) % s)=(x:Int) % s):=by
  have y0:=Int.emod_nonneg (x:Int) (show s≠0 by omega);have y1:=Int.emod_lt_of_pos (x:Int) (show 0<s by omega);generalize (x:Int) % s=z at y0 y1;show wrap64 z=z;unfold wrap64;omega
 clear hs hx
 go_in
 go_wp2_with (refine(HP.out _).mono ?_;rintro e w' ⟨rfl,rfl⟩)
 refine(HH.out _).mono ?_
 rintro e w1 ⟨rfl,aK⟩
 have dF:=hid (HB.out.trans (aK.mono HB.out.size))
 clear aK HX HB x0 x1 x2 x3 x4
 go_wp2_with fail
 go_ret
 exact⟨ax HF.out,dF.out⟩
end Ky
namespace Ky
open cB (nZ lU)
def LQ(W:World)(ka kb:Array Value)(w:World):Prop:=aF w W.heap.size ka 87/\aF w (W.heap.size+1) kb 87/\Below W.heap.size W w
theorem LQ.next{W w w':World}{ka kb:Array Value}(H:LQ W ka kb w)(hb:Below w.heap.size w w'):LQ W ka kb w':=⟨H.1.next hb,H.2.1.next hb,H.2.2.trans (hb.mono H.2.2.size)⟩
theorem LQ.alloc{W w:World}{ka kb:Array Value}(H:LQ W ka kb w)(o:Obj):LQ W ka kb (w.alloc o):=H.next ((Below.refl _ _).alloc zl o)
theorem LQ.qb{W w:World}{ka kb:Array Value}(H:LQ W ka kb w):∃v,v=w:=⟨w,rfl⟩
theorem LQ.gt{W w:World}{ka kb:Array Value}(H:LQ W ka kb w):W.heap.size+1<w.heap.size:=H.2.1.lt
theorem LQ.box{W w:World}{ka kb cs:Array Value}{t:TypeId}(H:LQ W ka kb (w.alloc (.cells cs t))):aF (w.alloc (.cells cs t)) w.heap.size cs t:=aF.box w cs t
theorem LQ.drew{W w:World}{ka kb:Array Value}(H:LQ W ka kb w):LQ W ka kb w.drew:=⟨H.1.drew,H.2.1.drew,H.2.2.drew⟩
theorem LQ.store{W w:World}{ka kb:Array Value}{g:Nat}(H:LQ W ka kb w)(hg:W.heap.size+1<g)(v u:Value):LQ W ka kb ((w.setCell ⟨g,0,none⟩ v).setCell ⟨g,1,none⟩ u) :=
 ⟨(H.1.other g 0 zo v).other g 1 zo u,(H.2.1.other g 0 zo v).other g 1 zo u,(H.2.2.setCell (p:=⟨g,0,none⟩) zt v).setCell (p:=⟨g,1,none⟩) zt u⟩
section
variable {w:World}{g k:Nat}{t:TypeId}{cs:Array Value}{x y:Int}
theorem bw(H:aF w g (epc x y) t)(x' y':Int):aF ((w.setCell ⟨g,0,none⟩ (.int .u32 x')).setCell ⟨g,1,none⟩ (.int .u32 y')) g (epc x' y') t :=
 (H.set' 0 (.int .u32 x') (cs':=epc x' y) rfl).set' 1 (.int .u32 y') rfl
theorem bz(H:aF w g cs t)(hk:g≠k)(v u:Value):aF ((w.setCell ⟨k,0,none⟩ v).setCell ⟨k,1,none⟩ u) g cs t:=(H.other k 0 hk v).other k 1 hk u
end
theorem JR(a b p q r a2 b2 p2 q2 r2:Nat)(hp:p<65536)(hq:q<65536)(hp2:p2<65536)(CJ:q2<65536)(g:Bool)(hg:lU a b p q r a2 b2 p2 q2 r2=g)(W:World) :
  Calls Tryz.prog 123 #[.agg (eI a b p q r),.agg (eI a2 b2 p2 q2 r2)] W λe w'=>e = .returned (.bool g)/\Below W.heap.size W w':=by
 have XM:=hid ((aF.box W (eI a b p q r) 87).alloc (.cells (eI a2 b2 p2 q2 r2) 87))
 have XN:=hid (aF.n5 W (.cells (eI a b p q r) 87) (eI a2 b2 p2 q2 r2) 87)
 have qV:=hid (((Below.refl _ W).alloc zl (.cells (eI a b p q r) 87)).alloc zs (.cells (eI a2 b2 p2 q2 r2) 87))
 obtain⟨x0,x1,x2,x3,x4⟩:=bZ XM.out
 obtain⟨y0,y1,y2,y3,y4⟩:=bZ XN.out
 unfold lU at hg
 by_cases h1:r=r2
 ·rw[if_neg zo]at hg;subst h1;have E1:=hid (gD a b p q r hp hq 0 a p (Or.inl ⟨rfl,rfl,rfl⟩));have E2:=hid (gD a2 b2 p2 q2 r hp2 CJ 0 a2 p2 (Or.inl ⟨rfl,rfl,rfl⟩));have HG:=hid hg;clear hg;have d0:((r:Int)!=r)=false:=zs;go_in;go_upto_region 3 with fail;have HQ:Hid (LQ W (eI a b p q r) (eI a2 b2 p2 q2 r) (((W.alloc (.cells (eI a b p q r) 87)).alloc (.cells (eI a2 b2 p2 q2 r) 87)).drew)):=hid ⟨XM.out.drew,XN.out.drew,qV.out.drew⟩;clear x0 x1 x2 x3 x4 y0 y1 y2 y3 y4;go_cut [5,6] (λs5 s6 wx=>∃g5 g6:Nat,s5 = .pointer (some ⟨g5,0,none⟩)/\s6 = .pointer (some ⟨g6,0,none⟩)/\Hid (aF wx g5 (epc a p) 166)/\Hid (aF wx g6 (epc a2 p2) 166)/\Hid (LQ W (eI a b p q r) (eI a2 b2 p2 q2 r) wx))
  case first =>
   refine wp_region_held_drew (S:=λw'=>LQ W (eI a b p q r) (eI a2 b2 p2 q2 r) w') zk (HQ.out) (λhH=>?_);obtain⟨wy,SQ⟩:=LQ.qb hH;rw[← SQ]at hH ⊢;clear SQ;refine zqt 0 (some 17) ?v1 rfl rfl ?c1 hH ?r1
   case c1=>(intro w' hS;obtain⟨x0,x1,x2,x3,x4⟩:=bZ hS.1;go_simp;(try with_reducible rfl))
   try simp only[zq]
   refine zqt 2 (some 19) ?v2 rfl rfl ?c2 hH ?r2
   case c2=>(intro w' hS;obtain⟨x0,x1,x2,x3,x4⟩:=bZ hS.2.1;go_simp;(try with_reducible rfl))
   try simp only[zq]
   refine wpAnyH_ready (rs:=[1,4,5]) zk zs (AllReadyH.cons rfl (λK hK=>?_) (AllReadyH.cons rfl (λK hK=>?_) (AllReadyH.cons rfl (λK hK=>?_) (AllReadyH.nil))))
   ·go_simp;refine(E1.out _).mono ?_;rintro e w2 ⟨rfl,cz⟩;refine hK.out _ _ (LQ.next hH cz) (λhH=>?_);clear hK K;clear cz
    try simp only[zq]
    refine wpAnyH_ready (rs:=[3,4,5]) zk zs (AllReadyH.cons rfl (λK hK=>?_) (AllReadyH.cons rfl (λK hK=>?_) (AllReadyH.cons rfl (λK hK=>?_) (AllReadyH.nil))))
    ·go_simp;refine(E2.out _).mono ?_;rintro e w3 ⟨rfl,cz⟩;refine hK.out _ _ (LQ.next hH cz) (λhH=>?_);clear hK K;clear cz
     try simp only[zq]
     refine wpAnyH_ready (rs:=[4,5]) zk zs (AllReadyH.cons rfl (λK hK=>?_) (AllReadyH.cons rfl (λK hK=>?_) (AllReadyH.nil)))
     ·go_simp;have G5:=LQ.gt hH;refine hK.out _ _ (LQ.alloc hH _) (λhH=>?_);clear hK K;have P5:=hid (LQ.box hH)
      try simp only[zq]
      refine zrd 5 (λK hK=>?_);go_simp;have G6:=LQ.gt hH;have hlt:=P5.out.lt;refine hK.out _ _ (LQ.alloc hH _) (λhH=>?_);clear hK K;have P6:=hid (LQ.box hH);replace P5:=hid (P5.out.alloc (.cells (epc 0 0) 166));have hne:=Nat.ne_of_lt hlt;clear hlt
      try simp only[zq]
      refine zrd 6 (λK hK=>?_);obtain⟨wz,lu⟩:=LQ.qb hH
      try simp only[World.size_alloc]at P5 P6 G5 G6 hne
      rw[← lu]at hH P5 P6 ⊢;clear lu;have c0:=P5.out.cell 0 _ rfl;have c1:=P5.out.cell 1 _ rfl;have d0:=P5.out.frozen 0;have d1:=P5.out.frozen 1;go_simp;clear c0 c1 d0 d1;refine hK.out _ _ (LQ.store hH G5 _ _) (λhH=>?_);clear hK K;replace P5:=hid (bw P5.out a p);replace P6:=hid (bz P6.out hne.symm (.int .u32 (a:Int)) (.int .u32 (p:Int)))
      try simp only[zq]
      refine zrd 7 (λK hK=>?_);have c0:=P6.out.cell 0 _ rfl;have c1:=P6.out.cell 1 _ rfl;have d0:=P6.out.frozen 0;have d1:=P6.out.frozen 1;go_simp;clear c0 c1 d0 d1;refine hK.out _ _ (LQ.store hH G6 _ _) (λhH=>?_);clear hK K;replace P6:=hid (bw P6.out a2 p2);replace P5:=hid (bz P5.out hne (.int .u32 (a2:Int)) (.int .u32 (p2:Int)))
      try simp only[zq]
      refine wpAnyH_done zk ?_ _;go_wp2_with fail;go_meet;exact⟨_,_,rfl,rfl,P5,P6,hid hH⟩
     ·go_simp;have G6:=LQ.gt hH;refine hK.out _ _ (LQ.alloc hH _) (λhH=>?_);clear hK K;have P6:=hid (LQ.box hH)
      try simp only[zq]
      refine zrd 4 (λK hK=>?_);go_simp;have G5:=LQ.gt hH;have hlt:=P6.out.lt;refine hK.out _ _ (LQ.alloc hH _) (λhH=>?_);clear hK K;have P5:=hid (LQ.box hH);replace P6:=hid (P6.out.alloc (.cells (epc 0 0) 166));have hne:=Nat.ne_of_gt hlt;clear hlt
      try simp only[zq]
      refine zrd 6 (λK hK=>?_);obtain⟨wz,lu⟩:=LQ.qb hH
      try simp only[World.size_alloc]at P5 P6 G5 G6 hne
      rw[← lu]at hH P5 P6 ⊢;clear lu;have c0:=P5.out.cell 0 _ rfl;have c1:=P5.out.cell 1 _ rfl;have d0:=P5.out.frozen 0;have d1:=P5.out.frozen 1;go_simp;clear c0 c1 d0 d1;refine hK.out _ _ (LQ.store hH G5 _ _) (λhH=>?_);clear hK K;replace P5:=hid (bw P5.out a p);replace P6:=hid (bz P6.out hne.symm (.int .u32 (a:Int)) (.int .u32 (p:Int)))
      try simp only[zq]
      refine zrd 7 (λK hK=>?_);have c0:=P6.out.cell 0 _ rfl;have c1:=P6.out.cell 1 _ rfl;have d0:=P6.out.frozen 0;have d1:=P6.out.frozen 1;go_simp;clear c0 c1 d0 d1;refine hK.out _ _ (LQ.store hH G6 _ _) (λhH=>?_);clear hK K;replace P6:=hid (bw P6.out a2 p2);replace P5:=hid (bz P5.out hne (.int .u32 (a2:Int)) (.int .u32 (p2:Int)))
      try simp only[zq]
      refine wpAnyH_done zk ?_ _;go_wp2_with fail;go_meet;exact⟨_,_,rfl,rfl,P5,P6,hid hH⟩
    ·go_simp;have G5:=LQ.gt hH;refine hK.out _ _ (LQ.alloc hH _) (λhH=>?_);clear hK K;have P5:=hid (LQ.box hH)
     try simp only[zq]
     refine wpAnyH_ready (rs:=[3,5]) zk zs (AllReadyH.cons rfl (λK hK=>?_) (AllReadyH.cons rfl (λK hK=>?_) (AllReadyH.nil)))
     ·go_simp;refine(E2.out _).mono ?_;rintro e w4 ⟨rfl,cz⟩;refine hK.out _ _ (LQ.next hH cz) (λhH=>?_);clear hK K;replace P5:=hid (P5.out.next cz);clear cz
      try simp only[zq]
      refine zrd 5 (λK hK=>?_);go_simp;have G6:=LQ.gt hH;have hlt:=P5.out.lt;refine hK.out _ _ (LQ.alloc hH _) (λhH=>?_);clear hK K;have P6:=hid (LQ.box hH);replace P5:=hid (P5.out.alloc (.cells (epc 0 0) 166));have hne:=Nat.ne_of_lt hlt;clear hlt
      try simp only[zq]
      refine zrd 6 (λK hK=>?_);obtain⟨wz,lu⟩:=LQ.qb hH
      try simp only[World.size_alloc]at P5 P6 G5 G6 hne
      rw[← lu]at hH P5 P6 ⊢;clear lu;have c0:=P5.out.cell 0 _ rfl;have c1:=P5.out.cell 1 _ rfl;have d0:=P5.out.frozen 0;have d1:=P5.out.frozen 1;go_simp;clear c0 c1 d0 d1;refine hK.out _ _ (LQ.store hH G5 _ _) (λhH=>?_);clear hK K;replace P5:=hid (bw P5.out a p);replace P6:=hid (bz P6.out hne.symm (.int .u32 (a:Int)) (.int .u32 (p:Int)))
      try simp only[zq]
      refine zrd 7 (λK hK=>?_);have c0:=P6.out.cell 0 _ rfl;have c1:=P6.out.cell 1 _ rfl;have d0:=P6.out.frozen 0;have d1:=P6.out.frozen 1;go_simp;clear c0 c1 d0 d1;refine hK.out _ _ (LQ.store hH G6 _ _) (λhH=>?_);clear hK K;replace P6:=hid (bw P6.out a2 p2);replace P5:=hid (bz P5.out hne (.int .u32 (a2:Int)) (.int .u32 (p2:Int)))
      try simp only[zq]
      refine wpAnyH_done zk ?_ _;go_wp2_with fail;go_meet;exact⟨_,_,rfl,rfl,P5,P6,hid hH⟩
     ·go_simp;have G6:=LQ.gt hH;have hlt:=P5.out.lt;refine hK.out _ _ (LQ.alloc hH _) (λhH=>?_);clear hK K;have P6:=hid (LQ.box hH);replace P5:=hid (P5.out.alloc (.cells (epc 0 0) 166));have hne:=Nat.ne_of_lt hlt;clear hlt
      try simp only[zq]
      refine zrd 3 (λK hK=>?_);go_simp;refine(E2.out _).mono ?_;rintro e w5 ⟨rfl,cz⟩;refine hK.out _ _ (LQ.next hH cz) (λhH=>?_);clear hK K;replace P5:=hid (P5.out.next cz);replace P6:=hid (P6.out.next cz);clear cz
      try simp only[zq]
      refine zrd 6 (λK hK=>?_);obtain⟨wz,lu⟩:=LQ.qb hH
      try simp only[World.size_alloc]at P5 P6 G5 G6 hne
      rw[← lu]at hH P5 P6 ⊢;clear lu;have c0:=P5.out.cell 0 _ rfl;have c1:=P5.out.cell 1 _ rfl;have d0:=P5.out.frozen 0;have d1:=P5.out.frozen 1;go_simp;clear c0 c1 d0 d1;refine hK.out _ _ (LQ.store hH G5 _ _) (λhH=>?_);clear hK K;replace P5:=hid (bw P5.out a p);replace P6:=hid (bz P6.out hne.symm (.int .u32 (a:Int)) (.int .u32 (p:Int)))
      try simp only[zq]
      refine zrd 7 (λK hK=>?_);have c0:=P6.out.cell 0 _ rfl;have c1:=P6.out.cell 1 _ rfl;have d0:=P6.out.frozen 0;have d1:=P6.out.frozen 1;go_simp;clear c0 c1 d0 d1;refine hK.out _ _ (LQ.store hH G6 _ _) (λhH=>?_);clear hK K;replace P6:=hid (bw P6.out a2 p2);replace P5:=hid (bz P5.out hne (.int .u32 (a2:Int)) (.int .u32 (p2:Int)))
      try simp only[zq]
      refine wpAnyH_done zk ?_ _;go_wp2_with fail;go_meet;exact⟨_,_,rfl,rfl,P5,P6,hid hH⟩
    ·go_simp;have G6:=LQ.gt hH;refine hK.out _ _ (LQ.alloc hH _) (λhH=>?_);clear hK K;have P6:=hid (LQ.box hH)
     try simp only[zq]
     refine wpAnyH_ready (rs:=[3,4]) zk zs (AllReadyH.cons rfl (λK hK=>?_) (AllReadyH.cons rfl (λK hK=>?_) (AllReadyH.nil)))
     ·go_simp;refine(E2.out _).mono ?_;rintro e w4 ⟨rfl,cz⟩;refine hK.out _ _ (LQ.next hH cz) (λhH=>?_);clear hK K;replace P6:=hid (P6.out.next cz);clear cz
      try simp only[zq]
      refine zrd 4 (λK hK=>?_);go_simp;have G5:=LQ.gt hH;have hlt:=P6.out.lt;refine hK.out _ _ (LQ.alloc hH _) (λhH=>?_);clear hK K;have P5:=hid (LQ.box hH);replace P6:=hid (P6.out.alloc (.cells (epc 0 0) 166));have hne:=Nat.ne_of_gt hlt;clear hlt
      try simp only[zq]
      refine zrd 6 (λK hK=>?_);obtain⟨wz,lu⟩:=LQ.qb hH
      try simp only[World.size_alloc]at P5 P6 G5 G6 hne
      rw[← lu]at hH P5 P6 ⊢;clear lu;have c0:=P5.out.cell 0 _ rfl;have c1:=P5.out.cell 1 _ rfl;have d0:=P5.out.frozen 0;have d1:=P5.out.frozen 1;go_simp;clear c0 c1 d0 d1;refine hK.out _ _ (LQ.store hH G5 _ _) (λhH=>?_);clear hK K;replace P5:=hid (bw P5.out a p);replace P6:=hid (bz P6.out hne.symm (.int .u32 (a:Int)) (.int .u32 (p:Int)))
      try simp only[zq]
      refine zrd 7 (λK hK=>?_);have c0:=P6.out.cell 0 _ rfl;have c1:=P6.out.cell 1 _ rfl;have d0:=P6.out.frozen 0;have d1:=P6.out.frozen 1;go_simp;clear c0 c1 d0 d1;refine hK.out _ _ (LQ.store hH G6 _ _) (λhH=>?_);clear hK K;replace P6:=hid (bw P6.out a2 p2);replace P5:=hid (bz P5.out hne (.int .u32 (a2:Int)) (.int .u32 (p2:Int)))
      try simp only[zq]
      refine wpAnyH_done zk ?_ _;go_wp2_with fail;go_meet;exact⟨_,_,rfl,rfl,P5,P6,hid hH⟩
     ·go_simp;have G5:=LQ.gt hH;have hlt:=P6.out.lt;refine hK.out _ _ (LQ.alloc hH _) (λhH=>?_);clear hK K;have P5:=hid (LQ.box hH);replace P6:=hid (P6.out.alloc (.cells (epc 0 0) 166));have hne:=Nat.ne_of_gt hlt;clear hlt
      try simp only[zq]
      refine zrd 3 (λK hK=>?_);go_simp;refine(E2.out _).mono ?_;rintro e w5 ⟨rfl,cz⟩;refine hK.out _ _ (LQ.next hH cz) (λhH=>?_);clear hK K;replace P5:=hid (P5.out.next cz);replace P6:=hid (P6.out.next cz);clear cz
      try simp only[zq]
      refine zrd 6 (λK hK=>?_);obtain⟨wz,lu⟩:=LQ.qb hH
      try simp only[World.size_alloc]at P5 P6 G5 G6 hne
      rw[← lu]at hH P5 P6 ⊢;clear lu;have c0:=P5.out.cell 0 _ rfl;have c1:=P5.out.cell 1 _ rfl;have d0:=P5.out.frozen 0;have d1:=P5.out.frozen 1;go_simp;clear c0 c1 d0 d1;refine hK.out _ _ (LQ.store hH G5 _ _) (λhH=>?_);clear hK K;replace P5:=hid (bw P5.out a p);replace P6:=hid (bz P6.out hne.symm (.int .u32 (a:Int)) (.int .u32 (p:Int)))
      try simp only[zq]
      refine zrd 7 (λK hK=>?_);have c0:=P6.out.cell 0 _ rfl;have c1:=P6.out.cell 1 _ rfl;have d0:=P6.out.frozen 0;have d1:=P6.out.frozen 1;go_simp;clear c0 c1 d0 d1;refine hK.out _ _ (LQ.store hH G6 _ _) (λhH=>?_);clear hK K;replace P6:=hid (bw P6.out a2 p2);replace P5:=hid (bz P5.out hne (.int .u32 (a2:Int)) (.int .u32 (p2:Int)))
      try simp only[zq]
      refine wpAnyH_done zk ?_ _;go_wp2_with fail;go_meet;exact⟨_,_,rfl,rfl,P5,P6,hid hH⟩
   ·go_simp;have G5:=LQ.gt hH;refine hK.out _ _ (LQ.alloc hH _) (λhH=>?_);clear hK K;have P5:=hid (LQ.box hH)
    try simp only[zq]
    refine wpAnyH_ready (rs:=[1,5]) zk zs (AllReadyH.cons rfl (λK hK=>?_) (AllReadyH.cons rfl (λK hK=>?_) (AllReadyH.nil)))
    ·go_simp;refine(E1.out _).mono ?_;rintro e w3 ⟨rfl,cz⟩;refine hK.out _ _ (LQ.next hH cz) (λhH=>?_);clear hK K;replace P5:=hid (P5.out.next cz);clear cz
     try simp only[zq]
     refine wpAnyH_ready (rs:=[3,5]) zk zs (AllReadyH.cons rfl (λK hK=>?_) (AllReadyH.cons rfl (λK hK=>?_) (AllReadyH.nil)))
     ·go_simp;refine(E2.out _).mono ?_;rintro e w4 ⟨rfl,cz⟩;refine hK.out _ _ (LQ.next hH cz) (λhH=>?_);clear hK K;replace P5:=hid (P5.out.next cz);clear cz
      try simp only[zq]
      refine zrd 5 (λK hK=>?_);go_simp;have G6:=LQ.gt hH;have hlt:=P5.out.lt;refine hK.out _ _ (LQ.alloc hH _) (λhH=>?_);clear hK K;have P6:=hid (LQ.box hH);replace P5:=hid (P5.out.alloc (.cells (epc 0 0) 166));have hne:=Nat.ne_of_lt hlt;clear hlt
      try simp only[zq]
      refine zrd 6 (λK hK=>?_);obtain⟨wz,lu⟩:=LQ.qb hH
      try simp only[World.size_alloc]at P5 P6 G5 G6 hne
      rw[← lu]at hH P5 P6 ⊢;clear lu;have c0:=P5.out.cell 0 _ rfl;have c1:=P5.out.cell 1 _ rfl;have d0:=P5.out.frozen 0;have d1:=P5.out.frozen 1;go_simp;clear c0 c1 d0 d1;refine hK.out _ _ (LQ.store hH G5 _ _) (λhH=>?_);clear hK K;replace P5:=hid (bw P5.out a p);replace P6:=hid (bz P6.out hne.symm (.int .u32 (a:Int)) (.int .u32 (p:Int)))
      try simp only[zq]
      refine zrd 7 (λK hK=>?_);have c0:=P6.out.cell 0 _ rfl;have c1:=P6.out.cell 1 _ rfl;have d0:=P6.out.frozen 0;have d1:=P6.out.frozen 1;go_simp;clear c0 c1 d0 d1;refine hK.out _ _ (LQ.store hH G6 _ _) (λhH=>?_);clear hK K;replace P6:=hid (bw P6.out a2 p2);replace P5:=hid (bz P5.out hne (.int .u32 (a2:Int)) (.int .u32 (p2:Int)))
      try simp only[zq]
      refine wpAnyH_done zk ?_ _;go_wp2_with fail;go_meet;exact⟨_,_,rfl,rfl,P5,P6,hid hH⟩
     ·go_simp;have G6:=LQ.gt hH;have hlt:=P5.out.lt;refine hK.out _ _ (LQ.alloc hH _) (λhH=>?_);clear hK K;have P6:=hid (LQ.box hH);replace P5:=hid (P5.out.alloc (.cells (epc 0 0) 166));have hne:=Nat.ne_of_lt hlt;clear hlt
      try simp only[zq]
      refine zrd 3 (λK hK=>?_);go_simp;refine(E2.out _).mono ?_;rintro e w5 ⟨rfl,cz⟩;refine hK.out _ _ (LQ.next hH cz) (λhH=>?_);clear hK K;replace P5:=hid (P5.out.next cz);replace P6:=hid (P6.out.next cz);clear cz
      try simp only[zq]
      refine zrd 6 (λK hK=>?_);obtain⟨wz,lu⟩:=LQ.qb hH
      try simp only[World.size_alloc]at P5 P6 G5 G6 hne
      rw[← lu]at hH P5 P6 ⊢;clear lu;have c0:=P5.out.cell 0 _ rfl;have c1:=P5.out.cell 1 _ rfl;have d0:=P5.out.frozen 0;have d1:=P5.out.frozen 1;go_simp;clear c0 c1 d0 d1;refine hK.out _ _ (LQ.store hH G5 _ _) (λhH=>?_);clear hK K;replace P5:=hid (bw P5.out a p);replace P6:=hid (bz P6.out hne.symm (.int .u32 (a:Int)) (.int .u32 (p:Int)))
      try simp only[zq]
      refine zrd 7 (λK hK=>?_);have c0:=P6.out.cell 0 _ rfl;have c1:=P6.out.cell 1 _ rfl;have d0:=P6.out.frozen 0;have d1:=P6.out.frozen 1;go_simp;clear c0 c1 d0 d1;refine hK.out _ _ (LQ.store hH G6 _ _) (λhH=>?_);clear hK K;replace P6:=hid (bw P6.out a2 p2);replace P5:=hid (bz P5.out hne (.int .u32 (a2:Int)) (.int .u32 (p2:Int)))
      try simp only[zq]
      refine wpAnyH_done zk ?_ _;go_wp2_with fail;go_meet;exact⟨_,_,rfl,rfl,P5,P6,hid hH⟩
    ·go_simp;have G6:=LQ.gt hH;have hlt:=P5.out.lt;refine hK.out _ _ (LQ.alloc hH _) (λhH=>?_);clear hK K;have P6:=hid (LQ.box hH);replace P5:=hid (P5.out.alloc (.cells (epc 0 0) 166));have hne:=Nat.ne_of_lt hlt;clear hlt
     try simp only[zq]
     refine zrd 1 (λK hK=>?_);go_simp;refine(E1.out _).mono ?_;rintro e w4 ⟨rfl,cz⟩;refine hK.out _ _ (LQ.next hH cz) (λhH=>?_);clear hK K;replace P5:=hid (P5.out.next cz);replace P6:=hid (P6.out.next cz);clear cz
     try simp only[zq]
     refine zrd 3 (λK hK=>?_);go_simp;refine(E2.out _).mono ?_;rintro e w5 ⟨rfl,cz⟩;refine hK.out _ _ (LQ.next hH cz) (λhH=>?_);clear hK K;replace P5:=hid (P5.out.next cz);replace P6:=hid (P6.out.next cz);clear cz
     try simp only[zq]
     refine zrd 6 (λK hK=>?_);obtain⟨wz,lu⟩:=LQ.qb hH
     try simp only[World.size_alloc]at P5 P6 G5 G6 hne
     rw[← lu]at hH P5 P6 ⊢;clear lu;have c0:=P5.out.cell 0 _ rfl;have c1:=P5.out.cell 1 _ rfl;have d0:=P5.out.frozen 0;have d1:=P5.out.frozen 1;go_simp;clear c0 c1 d0 d1;refine hK.out _ _ (LQ.store hH G5 _ _) (λhH=>?_);clear hK K;replace P5:=hid (bw P5.out a p);replace P6:=hid (bz P6.out hne.symm (.int .u32 (a:Int)) (.int .u32 (p:Int)))
     try simp only[zq]
     refine zrd 7 (λK hK=>?_);have c0:=P6.out.cell 0 _ rfl;have c1:=P6.out.cell 1 _ rfl;have d0:=P6.out.frozen 0;have d1:=P6.out.frozen 1;go_simp;clear c0 c1 d0 d1;refine hK.out _ _ (LQ.store hH G6 _ _) (λhH=>?_);clear hK K;replace P6:=hid (bw P6.out a2 p2);replace P5:=hid (bz P5.out hne (.int .u32 (a2:Int)) (.int .u32 (p2:Int)))
     try simp only[zq]
     refine wpAnyH_done zk ?_ _;go_wp2_with fail;go_meet;exact⟨_,_,rfl,rfl,P5,P6,hid hH⟩
   ·go_simp;have G6:=LQ.gt hH;refine hK.out _ _ (LQ.alloc hH _) (λhH=>?_);clear hK K;have P6:=hid (LQ.box hH)
    try simp only[zq]
    refine wpAnyH_ready (rs:=[1,4]) zk zs (AllReadyH.cons rfl (λK hK=>?_) (AllReadyH.cons rfl (λK hK=>?_) (AllReadyH.nil)))
    ·go_simp;refine(E1.out _).mono ?_;rintro e w3 ⟨rfl,cz⟩;refine hK.out _ _ (LQ.next hH cz) (λhH=>?_);clear hK K;replace P6:=hid (P6.out.next cz);clear cz
     try simp only[zq]
     refine wpAnyH_ready (rs:=[3,4]) zk zs (AllReadyH.cons rfl (λK hK=>?_) (AllReadyH.cons rfl (λK hK=>?_) (AllReadyH.nil)))
     ·go_simp;refine(E2.out _).mono ?_;rintro e w4 ⟨rfl,cz⟩;refine hK.out _ _ (LQ.next hH cz) (λhH=>?_);clear hK K;replace P6:=hid (P6.out.next cz);clear cz
      try simp only[zq]
      refine zrd 4 (λK hK=>?_);go_simp;have G5:=LQ.gt hH;have hlt:=P6.out.lt;refine hK.out _ _ (LQ.alloc hH _) (λhH=>?_);clear hK K;have P5:=hid (LQ.box hH);replace P6:=hid (P6.out.alloc (.cells (epc 0 0) 166));have hne:=Nat.ne_of_gt hlt;clear hlt
      try simp only[zq]
      refine zrd 6 (λK hK=>?_);obtain⟨wz,lu⟩:=LQ.qb hH
      try simp only[World.size_alloc]at P5 P6 G5 G6 hne
      rw[← lu]at hH P5 P6 ⊢;clear lu;have c0:=P5.out.cell 0 _ rfl;have c1:=P5.out.cell 1 _ rfl;have d0:=P5.out.frozen 0;have d1:=P5.out.frozen 1;go_simp;clear c0 c1 d0 d1;refine hK.out _ _ (LQ.store hH G5 _ _) (λhH=>?_);clear hK K;replace P5:=hid (bw P5.out a p);replace P6:=hid (bz P6.out hne.symm (.int .u32 (a:Int)) (.int .u32 (p:Int)))
      try simp only[zq]
      refine zrd 7 (λK hK=>?_);have c0:=P6.out.cell 0 _ rfl;have c1:=P6.out.cell 1 _ rfl;have d0:=P6.out.frozen 0;have d1:=P6.out.frozen 1;go_simp;clear c0 c1 d0 d1;refine hK.out _ _ (LQ.store hH G6 _ _) (λhH=>?_);clear hK K;replace P6:=hid (bw P6.out a2 p2);replace P5:=hid (bz P5.out hne (.int .u32 (a2:Int)) (.int .u32 (p2:Int)))
      try simp only[zq]
      refine wpAnyH_done zk ?_ _;go_wp2_with fail;go_meet;exact⟨_,_,rfl,rfl,P5,P6,hid hH⟩
     ·go_simp;have G5:=LQ.gt hH;have hlt:=P6.out.lt;refine hK.out _ _ (LQ.alloc hH _) (λhH=>?_);clear hK K;have P5:=hid (LQ.box hH);replace P6:=hid (P6.out.alloc (.cells (epc 0 0) 166));have hne:=Nat.ne_of_gt hlt;clear hlt
      try simp only[zq]
      refine zrd 3 (λK hK=>?_);go_simp;refine(E2.out _).mono ?_;rintro e w5 ⟨rfl,cz⟩;refine hK.out _ _ (LQ.next hH cz) (λhH=>?_);clear hK K;replace P5:=hid (P5.out.next cz);replace P6:=hid (P6.out.next cz);clear cz
      try simp only[zq]
      refine zrd 6 (λK hK=>?_);obtain⟨wz,lu⟩:=LQ.qb hH
      try simp only[World.size_alloc]at P5 P6 G5 G6 hne
      rw[← lu]at hH P5 P6 ⊢;clear lu;have c0:=P5.out.cell 0 _ rfl;have c1:=P5.out.cell 1 _ rfl;have d0:=P5.out.frozen 0;have d1:=P5.out.frozen 1;go_simp;clear c0 c1 d0 d1;refine hK.out _ _ (LQ.store hH G5 _ _) (λhH=>?_);clear hK K;replace P5:=hid (bw P5.out a p);replace P6:=hid (bz P6.out hne.symm (.int .u32 (a:Int)) (.int .u32 (p:Int)))
      try simp only[zq]
      refine zrd 7 (λK hK=>?_);have c0:=P6.out.cell 0 _ rfl;have c1:=P6.out.cell 1 _ rfl;have d0:=P6.out.frozen 0;have d1:=P6.out.frozen 1;go_simp;clear c0 c1 d0 d1;refine hK.out _ _ (LQ.store hH G6 _ _) (λhH=>?_);clear hK K;replace P6:=hid (bw P6.out a2 p2);replace P5:=hid (bz P5.out hne (.int .u32 (a2:Int)) (.int .u32 (p2:Int)))
      try simp only[zq]
      refine wpAnyH_done zk ?_ _;go_wp2_with fail;go_meet;exact⟨_,_,rfl,rfl,P5,P6,hid hH⟩
    ·go_simp;have G5:=LQ.gt hH;have hlt:=P6.out.lt;refine hK.out _ _ (LQ.alloc hH _) (λhH=>?_);clear hK K;have P5:=hid (LQ.box hH);replace P6:=hid (P6.out.alloc (.cells (epc 0 0) 166));have hne:=Nat.ne_of_gt hlt;clear hlt
     try simp only[zq]
     refine zrd 1 (λK hK=>?_);go_simp;refine(E1.out _).mono ?_;rintro e w4 ⟨rfl,cz⟩;refine hK.out _ _ (LQ.next hH cz) (λhH=>?_);clear hK K;replace P5:=hid (P5.out.next cz);replace P6:=hid (P6.out.next cz);clear cz
     try simp only[zq]
     refine zrd 3 (λK hK=>?_);go_simp;refine(E2.out _).mono ?_;rintro e w5 ⟨rfl,cz⟩;refine hK.out _ _ (LQ.next hH cz) (λhH=>?_);clear hK K;replace P5:=hid (P5.out.next cz);replace P6:=hid (P6.out.next cz);clear cz
     try simp only[zq]
     refine zrd 6 (λK hK=>?_);obtain⟨wz,lu⟩:=LQ.qb hH
     try simp only[World.size_alloc]at P5 P6 G5 G6 hne
     rw[← lu]at hH P5 P6 ⊢;clear lu;have c0:=P5.out.cell 0 _ rfl;have c1:=P5.out.cell 1 _ rfl;have d0:=P5.out.frozen 0;have d1:=P5.out.frozen 1;go_simp;clear c0 c1 d0 d1;refine hK.out _ _ (LQ.store hH G5 _ _) (λhH=>?_);clear hK K;replace P5:=hid (bw P5.out a p);replace P6:=hid (bz P6.out hne.symm (.int .u32 (a:Int)) (.int .u32 (p:Int)))
     try simp only[zq]
     refine zrd 7 (λK hK=>?_);have c0:=P6.out.cell 0 _ rfl;have c1:=P6.out.cell 1 _ rfl;have d0:=P6.out.frozen 0;have d1:=P6.out.frozen 1;go_simp;clear c0 c1 d0 d1;refine hK.out _ _ (LQ.store hH G6 _ _) (λhH=>?_);clear hK K;replace P6:=hid (bw P6.out a2 p2);replace P5:=hid (bz P5.out hne (.int .u32 (a2:Int)) (.int .u32 (p2:Int)))
     try simp only[zq]
     refine wpAnyH_done zk ?_ _;go_wp2_with fail;go_meet;exact⟨_,_,rfl,rfl,P5,P6,hid hH⟩
  case rest =>
   obtain⟨g5,g6,rfl,rfl,H5,H6,H7⟩:=hcut;have c0:=H5.out.cell 0 _ rfl;have c1:=H5.out.cell 1 _ rfl;have c2:=H6.out.cell 0 _ rfl;have c3:=H6.out.cell 1 _ rfl;by_cases h2:a≠a2\/p≠p2
   ·have HL:=hid (qT a p a2 p2 g ((if_pos h2).symm.trans HG.out));by_cases h3:a=a2
    ·subst h3;have EQ:=EE a p a p2 zo;clear h2;go_wp2_with fail;refine(HL.out _).mono ?_;rintro e w2 ⟨rfl,cz⟩;go_wp2_with fail;go_ret;exact⟨rfl,H7.out.2.2.trans (cz.mono H7.out.2.2.size)⟩
    ·have EQ:=EE a p a2 p2 zo;clear h2 h3;go_wp2_with fail;refine(HL.out _).mono ?_;rintro e w2 ⟨rfl,cz⟩;go_wp2_with fail;go_ret;exact⟨rfl,H7.out.2.2.trans (cz.mono H7.out.2.2.size)⟩
   ·have HL:=hid (qT b q b2 q2 g ((if_neg h2).symm.trans HG.out));obtain rfl:a=a2:=zo;obtain rfl:p=p2:=zo;have EQ:=Nz a p;have E3:=hid (gD a b p q r hp hq 1 b q (Or.inr ⟨rfl,rfl,rfl⟩));have E4:=hid (gD a b2 p q2 r hp2 CJ 1 b2 q2 (Or.inr ⟨rfl,rfl,rfl⟩));clear h2;go_wp2_with fail;refine wp_region_held_drew (S:=λw'=>LQ W (eI a b p q r) (eI a b2 p q2 r) w') zk (H7.out.drew) (λhH=>?_);obtain⟨wy,SQ⟩:=LQ.qb hH;rw[← SQ]at hH ⊢;clear SQ;refine zqt 0 (some 27) ?v3 rfl rfl ?c3 hH ?r3
    case c3=>(intro w' hS;obtain⟨x0,x1,x2,x3,x4⟩:=bZ hS.1;go_simp;(try with_reducible rfl))
    try simp only[zq]
    refine zqt 2 (some 29) ?v4 rfl rfl ?c4 hH ?r4
    case c4=>(intro w' hS;obtain⟨x0,x1,x2,x3,x4⟩:=bZ hS.2.1;go_simp;(try with_reducible rfl))
    try simp only[zq]
    refine zrd 1 (λK hK=>?_);go_simp;refine(E3.out _).mono ?_;rintro e w2 ⟨rfl,cz⟩;refine hK.out _ _ (LQ.next hH cz) (λhH=>?_);clear hK K;clear cz
    try simp only[zq]
    refine zrd 3 (λK hK=>?_);go_simp;refine(E4.out _).mono ?_;rintro e w3 ⟨rfl,cz⟩;refine hK.out _ _ (LQ.next hH cz) (λhH=>?_);clear hK K;clear cz
    try simp only[zq]
    refine zrd 4 (λK hK=>?_);go_simp;refine(HL.out _).mono ?_;rintro e w4 ⟨rfl,cz⟩;refine hK.out _ _ (LQ.next hH cz) (λhH=>?_);clear hK K;clear cz
    try simp only[zq]
    refine zr 5 4 hH ?_
    try simp only[zq]
    refine wpAnyH_done zk ?_ _;go_wp2_with fail;go_ret;exact⟨rfl,hH.2.2⟩
 ·rw[if_pos h1]at hg;have d0:((r:Int)!=r2)=true:=zt;have HG:=hid hg;clear hg h1;go_in;go_wp2;go_ret;exact⟨by rw[← HG.out];rfl,qV.out⟩
end Ky
end Go.Proofs.YtbhnbcadgmagpaaGreatDoor
namespace Go.Proofs.YtbhnbcadgmagpaaGreatDoor
open Go.ChangeShapes Go.WideShapes Go.ChangeAt Go.RowKit Go.aN
namespace Ky
open cB (nZ lT mc l6 bN kj tL lU)
end Ky
namespace Ky
open cB (nZ lU kj bN)
def AQ(W:World)(g k:Nat)(ka kb:Array Value)(w:World):Prop:=aF w g ka 87/\aF w k kb 87/\Below W.heap.size W w
theorem AQ.next{W w w':World}{g k:Nat}{ka kb:Array Value}(H:AQ W g k ka kb w)(hb:Below w.heap.size w w'):AQ W g k ka kb w':=⟨H.1.next hb,H.2.1.next hb,H.2.2.trans (hb.mono H.2.2.size)⟩
end Ky
namespace Ky
open cB (nZ lU kj bN tL)
theorem t_(a b p q r:Nat)(s:Int)(ha:a<4294967296)(hb:b<4294967296)(hp:p<65536)(hq:q<65536)(hr:r<256)(x:Nat)(hx:kj a b p q r=x)(y:Int)(hy:tL x s=y)(W:World) :
  Calls Tryz.prog 66 #[.agg (eI a b p q r),.int .i64 s] W λe w'=>e = .returned (.int .i64 y)/\Below W.heap.size W w':=by
 rcases hs:bN s with _ | _
 ·rw[cB.Nh hs]at hy;subst hy;exact FY a b p q r s hs W
 ·rw[cB.zY hs]at hy;subst hy;exact CX a b p q r s hs ha hb hp hq hr x hx W
end Ky
end Go.Proofs.YtbhnbcadgmagpaaGreatDoor
