import Derived.Test.YtbhnbcadgmagpaaGreatDoorBig
import Derived.Test.YtbhnbcadgmagpaaGreatDoorJ1
import Derived.Test.YtbhnbcadgmagpaaGreatDoorJ3
import Derived.Test.YtbhnbcadgmagpaaGreatDoorRows
import Derived.Test.YtbhnbcadgmagpaaGreatDoorJ13
set_option linter.unusedVariables false
set_option linter.unusedSimpArgs false
set_option maxHeartbeats 1000000
set_option maxRecDepth 100000
namespace Go.Proofs.YtbhnbcadgmagpaaGreatDoor
open Go.ChangeShapes Go.WideShapes Go.ChangeAt Go.RowKit Go.aN Go.Lib
namespace Fs
structure Vm(cs:Array Value)(t:Nat->Int):Prop where
 size:cs.size=16
 cell:∀i,i<16->cs[i]? = some (.int .i64 (t i))
 fit:∀i,i<16->-9223372036854775808<=t i/\t i<=9223372036854775807
def aQ(n lo hi:Int):Int:=min (max n lo) hi
def Vn(t:Nat->Int)(s:Int):Int:=if 0<=s/\s<16 then t s.toNat else 0
def ug(t:Nat->Int)(s c:Int):Int:=min (aQ c 0 1099511627775+aQ (Vn t s) 1 1048576) 1099511627775
theorem ax{k:IntKind}{a b:Int}(h:a=b):Ending.returned (.int k a) = .returned (.int k b):=by rw[h]
theorem nG(n lo hi:Int)(W:World):Calls Tryz.prog 281 #[.int .i64 n,.int .i64 lo,.int .i64 hi] W λe w'=>e = .returned (.int .i64 (aQ n lo hi))/\w'=W:=by
 unfold aQ;go_in;go_wp2_with fail
 all_goals
  go_ret
  exact⟨ax zo,rfl⟩
theorem nH(cs:Array Value)(t:Nat->Int)(H:Vm cs t)(s c:Int)(W:World) :
  Calls Tryz.prog 254 #[.agg cs,.int .i64 s,.int .i64 c] W λe w'=>e = .returned (.int .i64 (ug t s c))/\Below W.heap.size W w':=by
 have HC:=hid (λn lo hi=>nG n lo hi)
 by_cases hs:0<=s/\s<16
 ·obtain⟨k,rfl⟩:∃k:Nat,s=(k:Int):=⟨s.toNat,by omega⟩;have hk:k<16:=zo;have HB:=hid ((Below.refl W.heap.size W).alloc zl (.cells cs 22));have x0:=(aF.box W cs 22).cell k _ (H.cell k hk)
  have HU:Hid (ug t (k:Int) c=min (aQ c 0 1099511627775+aQ (t k) 1 1048576) 1099511627775):=by
   show _=_;unfold ug Vn;rw[if_pos hs,Int.toNat_natCast]
  have u0:∀n,0<=aQ n 0 1099511627775/\aQ n 0 1099511627775<=1099511627775:=λn=>by unfold aQ;omega
  have u1:∀n,1<=aQ n 1 1048576/\aQ n 1 1048576<=1048576:=λn=>by unfold aQ;omega
  obtain⟨a0,a1⟩:=u0 c;obtain⟨b0,b1⟩:=u1 (t k);clear u0 u1 H hs;have C0:=hid (HC.out c 0 1099511627775);have C1:=hid (HC.out (t k) 1 1048576);clear HC;generalize aQ c 0 1099511627775=A at *;generalize aQ (t k) 1 1048576=B at *;go_in;go_wp2_with fail;refine(C0.out _).mono ?_;rintro e w' ⟨rfl,rfl⟩;go_wp2_with fail;refine(C1.out _).mono ?_;rintro e w' ⟨rfl,rfl⟩;go_wp2_with fail
  all_goals
   go_ret
   exact⟨ax (by rw[HU.out];try omega),HB.out⟩
 ·have HB:=hid ((Below.refl W.heap.size W).alloc zl (.cells cs 22))
  have HU:Hid (ug t s c=min (aQ c 0 1099511627775+aQ 0 1 1048576) 1099511627775):=by
   show _=_;unfold ug Vn;rw[if_neg hs]
  have u0:∀n,0<=aQ n 0 1099511627775/\aQ n 0 1099511627775<=1099511627775:=λn=>by unfold aQ;omega
  have u1:∀n,1<=aQ n 1 1048576/\aQ n 1 1048576<=1048576:=λn=>by unfold aQ;omega
  obtain⟨a0,a1⟩:=u0 c;obtain⟨b0,b1⟩:=u1 0;clear u0 u1 H;have C0:=hid (HC.out c 0 1099511627775);have C1:=hid (HC.out 0 1 1048576);clear HC;generalize aQ c 0 1099511627775=A at *;generalize aQ 0 1 1048576=B at *;by_cases h0:0<=s
  ·have h1 : ¬s<16:=zo;clear hs;go_in;go_wp2_with fail;refine(C0.out _).mono ?_;rintro e w' ⟨rfl,rfl⟩;go_wp2_with fail;refine(C1.out _).mono ?_;rintro e w' ⟨rfl,rfl⟩;go_wp2_with fail
   all_goals
    go_ret
    exact⟨ax (by rw[HU.out];try omega),HB.out⟩
  ·clear hs;go_in;go_wp2_with fail;refine(C0.out _).mono ?_;rintro e w' ⟨rfl,rfl⟩;go_wp2_with fail;refine(C1.out _).mono ?_;rintro e w' ⟨rfl,rfl⟩;go_wp2_with fail
   all_goals
    go_ret
    exact⟨ax (by rw[HU.out];try omega),HB.out⟩
open kD (sE uh sH sG)
abbrev qS(a b c d e f h:Int):Array Value:=#[.int .u8 a,.int .u32 b,.int .u32 c,.int .u16 d,.int .u16 e,.int .u8 f,.int .u8 h]
section
variable {w w':World}{g:Nat}{a b c d e f h:Int}{t:TypeId}
theorem fK(H:aF w g (qS a b c d e f h) t):w.cell? ⟨g,0,none⟩=some (.int .u8 a)/\w.cell? ⟨g,1,none⟩=some (.int .u32 b)/\w.cell? ⟨g,2,none⟩=some (.int .u32 c)/\w.cell? ⟨g,3,none⟩=some (.int .u16 d) ∧
  w.cell? ⟨g,4,none⟩=some (.int .u16 e)/\w.cell? ⟨g,5,none⟩=some (.int .u8 f)/\w.cell? ⟨g,6,none⟩=some (.int .u8 h):=by
 refine⟨?_,?_,?_,?_,?_,?_,?_⟩ <;> exact H.cell _ _ rfl
end
def Ge(p f k:Int):Int:=if p=6 then sH f.toNat else if p=17\/p=1/\k=8 then 8 else 0
def J9(p f k:Int):Bool:=if p=6 then sG f.toNat else decide (p=17\/p=1/\k=8)
def kd(r:Bool):Int:=match r with | true=>0 | false=>8
def Fits(p k:Int)(r:Bool):Prop:=p=17\/p=1/\k=kd r
instance (p k:Int) (r:Bool):Decidable (Fits p k r):=by unfold Fits;exact inferInstance
def Be(s:Int)(r:Bool):Int:=if s=8\/s=9 then(if r then 9 else s)else 0
def Bf(s:Int):Bool:=decide (s=8\/s=9)
def NP(s:Int)(r:Bool)(p f k:Int):Int:=if p=6 then sE s r f.toNat else if Fits p k r then Be s r else 0
def MV(s:Int)(r:Bool)(p f k:Int):Bool:=if p=6 then uh s r f.toNat else if Fits p k r then Bf s else false
theorem J_(r:Bool)(W:World):Calls Tryz.prog 284 #[.bool r] W λe w'=>e = .returned (.int .u8 (kd r))/\w'=W:=by
 cases r
 all_goals
  go_in
  go_wp2_with fail
  go_ret
  exact⟨rfl,rfl⟩
theorem J'(s:Int)(r:Bool)(W:World):Calls Tryz.prog 283 #[.int .i64 s,.bool r] W λe w'=>e = .returned (.tuple #[.int .i64 (Be s r),.bool (Bf s)])/\w'=W:=by
 unfold Be Bf;by_cases h8:s=8
 ·subst h8
  cases r
  all_goals
   go_in
   go_wp2_with fail
   go_ret2
   exact⟨rfl,rfl⟩
 by_cases h9:s=9
 ·subst h9
  cases r
  all_goals
   go_in
   go_wp2_with fail
   go_ret2
   exact⟨rfl,rfl⟩
 have d8:(s != 8)=true:=by simpa using h8
 have d9:(s != 9)=true:=by simpa using h9
 rw[if_neg zo,decide_eq_false zo];clear h8 h9;go_in;go_wp2_with fail;go_ret2;exact⟨rfl,rfl⟩
theorem aaV(W:World)(o:Obj):Below W.heap.size W (W.alloc o):=(Below.refl W.heap.size W).alloc zl o
theorem uo(a b c d e f h:Int)(hf:0<=f/\f<=255)(W:World) :
  Calls Tryz.prog 196 #[.agg (qS a b c d e f h)] W λx w'=>x = .returned (.tuple #[.int .i64 (Ge a f h),.bool (J9 a f h)])/\Below W.heap.size W w':=by
 have HX:=hid (aF.box W (qS a b c d e f h) 95)
 have HB:=hid (aaV W (.cells (qS a b c d e f h) 95))
 obtain⟨x0,x1,x2,x3,x4,x5,x6⟩:=fK HX.out
 unfold Ge J9
 by_cases h6:a=6
 ·subst h6;obtain⟨n,rfl⟩:∃n:Nat,f=(n:Int):=⟨f.toNat,by omega⟩;have HO:=hid (Tr.uo n zo);rw[if_pos rfl,if_pos rfl,Int.toNat_natCast];clear hf;go_in;go_wp2_with fail;refine(HO.out _).mono ?_;rintro e w' ⟨rfl,rfl⟩;go_wp2_with fail;go_ret2;exact⟨rfl,HB.out⟩
 clear hf
 rw[if_neg h6,if_neg h6]
 have d6:(a==6)=false:=by simpa using h6
 by_cases vK:a=17
 ·subst vK;rw[if_pos (.inl rfl),decide_eq_true (.inl rfl)];clear h6 d6;go_in;go_wp2_with fail;go_ret2;exact⟨rfl,HB.out⟩
 have d17:(a==17)=false:=by simpa using vK
 by_cases h1:a=1
 ·subst h1;by_cases h8:h=8
  ·subst h8;rw[if_pos (.inr ⟨rfl,rfl⟩),decide_eq_true (.inr ⟨rfl,rfl⟩)];clear h6 d6 vK d17;go_in;go_wp2_with fail;go_ret2;exact⟨rfl,HB.out⟩
  ·have d8:(h==8)=false:=by simpa using h8
   rw[if_neg zo,decide_eq_false zo];clear h6 d6 vK d17 h8;go_in;go_wp2_with fail;go_ret2;exact⟨rfl,HB.out⟩
 have d1:(a==1)=false:=by simpa using h1
 rw[if_neg zo,decide_eq_false zo]
 clear h6 vK h1
 go_in
 go_wp2_with fail
 go_ret2
 exact⟨rfl,HB.out⟩
theorem mz(s:Int)(r:Bool)(a b c d e f h:Int)(hs : -9223372036854775808<=s/\s<=9223372036854775807)(hf:0<=f/\f<=255)(W:World) :
  Calls Tryz.prog 257 #[.int .i64 s,.bool r,.agg (qS a b c d e f h)] W λx w'=>x = .returned (.tuple #[.int .i64 (NP s r a f h),.bool (MV s r a f h)])/\Below W.heap.size W w':=by
 have HX:=hid (aF.box W (qS a b c d e f h) 95)
 have HB:=hid (aaV W (.cells (qS a b c d e f h) 95))
 obtain⟨x0,x1,x2,x3,x4,x5,x6⟩:=fK HX.out
 unfold NP MV
 by_cases h6:a=6
 ·subst h6;obtain⟨n,rfl⟩:∃n:Nat,f=(n:Int):=⟨f.toNat,by omega⟩;have HO:=hid (Tr.mz s r n hs zo);rw[if_pos rfl,if_pos rfl,Int.toNat_natCast];clear hf hs;go_in;go_wp2_with fail;refine(HO.out _).mono ?_;rintro e w' ⟨rfl,hb⟩;have dG:=hid (HB.out.trans (hb.mono HB.out.size));clear hb;go_wp2_with fail;go_ret2;exact⟨rfl,dG.out⟩
 clear hf hs
 rw[if_neg h6,if_neg h6]
 have d6:(a==6)=false:=by simpa using h6
 have HT:=hid (J' s r)
 have HK:=hid (J_ r)
 generalize Be s r=tn at HT ⊢
 generalize Bf s=tb at HT ⊢
 by_cases vK:a=17
 ·subst vK;rw[if_pos (.inl rfl),if_pos (.inl rfl)];clear h6 d6;go_in;go_wp2_with fail;refine(HT.out _).mono ?_;rintro e w' ⟨rfl,rfl⟩;go_wp2_with fail;go_ret2;exact⟨rfl,HB.out⟩
 have d17:(a==17)=false:=by simpa using vK
 by_cases h1:a=1
 ·subst h1;by_cases h8:h=kd r
  ·have hy:Fits 1 h r:=.inr ⟨rfl,h8⟩;rw[if_pos hy,if_pos hy]
   have d8:(h==kd r)=true:=by simpa using h8
   clear h6 d6 vK d17 hy h8;generalize kd r=kk at HK d8;go_in;go_wp2_with fail
   go_quiet ((go_at_call 284;exact Calls.quiet_of_same (HK.out _)))
   have dG:=hid (HB.out.lW nq);clear x0 x1 x2 x3 x4 x5 x6;go_wp2_with fail;refine(HT.out _).mono ?_;rintro e w' ⟨rfl,rfl⟩;go_wp2_with fail;go_ret2;exact⟨rfl,dG.out⟩
  ·have hy : ¬Fits 1 h r:=by unfold Fits;omega
   rw[if_neg hy,if_neg hy]
   have d8:(h==kd r)=false:=by simpa using h8
   clear h6 d6 vK d17 hy h8;generalize kd r=kk at HK d8;go_in;go_wp2_with fail
   go_quiet ((go_at_call 284;exact Calls.quiet_of_same (HK.out _)))
   have dG:=hid (HB.out.lW nq);clear x0 x1 x2 x3 x4 x5 x6;go_wp2_with fail;go_ret2;exact⟨rfl,dG.out⟩
 have d1:(a==1)=false:=by simpa using h1
 have hn : ¬Fits a h r:=by unfold Fits;omega
 rw[if_neg hn,if_neg hn]
 clear h6 vK h1 hn
 go_in
 go_wp2_with fail
 go_ret2
 exact⟨rfl,HB.out⟩
end Fs
end Go.Proofs.YtbhnbcadgmagpaaGreatDoor
