import Derived.Test.YtbhnbcadgmagpaaGreatDoorBih
import Derived.Test.YtbhnbcadgmagpaaGreatDoorJ1
import Derived.Test.YtbhnbcadgmagpaaGreatDoorJ35
set_option linter.unusedVariables false
set_option linter.unusedSimpArgs false
set_option maxRecDepth 100000
set_option maxHeartbeats 2000000
namespace Go.Proofs.YtbhnbcadgmagpaaGreatDoor
open Go.ChangeShapes Go.WideShapes Go.ChangeAt Go.RowKit Go.aN Go.Lib
namespace Pg
open bg (Ms af bq ay aP ag L4 aH aq ai bD)
open aE (R)
open ak (Ke)
open Me (ptr)
open Tb (UW TM Fw)
def bX(x:Ov):Ov:={ x with l:=if 1600<x.l then 1600 else x.l,bs:=if 1600<x.l then x.bs.take 1600 else x.bs,s:=if 4200<x.s.size then x.s.extract 0 4200 else x.s }
theorem Il{x:Ov}(h:x.Ok):(bX x).Ok:=by
 have hl:=h.l;have hs:=h.s;refine⟨h.kd,h.n,?_,h.c,?_⟩
 ·show(if 1600<x.l then 1600 else x.l)<=x.c
  split <;> omega
 ·show(if 4200<x.s.size then x.s.extract 0 4200 else x.s).size<=maxLen;split
  ·rw[ByteArray.size_extract];unfold maxLen at hs ⊢;omega
  ·exact hs
theorem D9{x:Ov}{w:World}{B:Nat}(h:bI w B x.A x.l x.bs):bI w B (bX x).A (bX x).l (bX x).bs:=by
 unfold bX;dsimp only;split
 ·exact h.front 1600 zo
 ·exact h
theorem Im(x:Ov)(hx:x.Ok)(w:World):Calls Tryz.prog 12 #[.agg (M_ x)] w λe w'=>e = .returned (.agg (M_ (bX x)))/\Below w.heap.size w w':=by
 obtain⟨kd,n,A,l,c,bs,s⟩:=x;have hl:l<=c:=hx.l;have hc:c<=9223372036854775807:=hx.c;have hs:s.size<=9223372036854775807:=hx.s;clear hx;unfold bX M_ I7;dsimp only;by_cases h1:1600<l
 ·by_cases h2:4200<s.size
  ·have HB:=hid ((ae w (.cells #[.int .i64 kd,.int .i64 n,.slice A l c,.string s] 39)));rw[if_pos h1,if_pos h2];have d1:decide ((l:Int)>1600)=true:=zt;have d2:decide ((s.size:Int)>4200)=true:=zt;go_in;go_wp2_with fail;have HR:=aF.n5 w (.cells #[.int .i64 kd,.int .i64 n,.slice A 1600 c,.string (s.extract 0 4200)] 39) #[.int .i64 kd,.int .i64 n,.slice A 1600 c,.string (s.extract 0 4200)] 39;have r0:=HR.cell 0 _ rfl;have r1:=HR.cell 1 _ rfl;have r2:=HR.cell 2 _ rfl;have r3:=HR.cell 3 _ rfl;exact bodyPost_ret (v:=.agg #[.int .i64 kd,.int .i64 n,.slice A 1600 c,.string (s.extract 0 4200)]) (by simp[results,Tryz.results12,go_sem,r0,r1,r2,r3]) rfl ⟨rfl,((Below.refl _ w).alloc zl (.cells #[.int .i64 kd,.int .i64 n,.slice A 1600 c,.string (s.extract 0 4200)] 39)).alloc zs _⟩
  ·have HB:=hid ((ae w (.cells #[.int .i64 kd,.int .i64 n,.slice A l c,.string s] 39)));rw[if_pos h1,if_neg h2];have d1:decide ((l:Int)>1600)=true:=zt;have d2:decide ((s.size:Int)>4200)=false:=zt;go_in;go_wp2_with fail;have HR:=aF.n5 w (.cells #[.int .i64 kd,.int .i64 n,.slice A 1600 c,.string s] 39) #[.int .i64 kd,.int .i64 n,.slice A 1600 c,.string s] 39;have r0:=HR.cell 0 _ rfl;have r1:=HR.cell 1 _ rfl;have r2:=HR.cell 2 _ rfl;have r3:=HR.cell 3 _ rfl;exact bodyPost_ret (v:=.agg #[.int .i64 kd,.int .i64 n,.slice A 1600 c,.string s]) (by simp[results,Tryz.results12,go_sem,r0,r1,r2,r3]) rfl ⟨rfl,((Below.refl _ w).alloc zl (.cells #[.int .i64 kd,.int .i64 n,.slice A 1600 c,.string s] 39)).alloc zs _⟩
 ·by_cases h2:4200<s.size
  ·have HB:=hid ((ae w (.cells #[.int .i64 kd,.int .i64 n,.slice A l c,.string s] 39)));rw[if_neg h1,if_pos h2];have d1:decide ((l:Int)>1600)=false:=zt;have d2:decide ((s.size:Int)>4200)=true:=zt;go_in;go_wp2_with fail;have HR:=aF.n5 w (.cells #[.int .i64 kd,.int .i64 n,.slice A l c,.string (s.extract 0 4200)] 39) #[.int .i64 kd,.int .i64 n,.slice A l c,.string (s.extract 0 4200)] 39;have r0:=HR.cell 0 _ rfl;have r1:=HR.cell 1 _ rfl;have r2:=HR.cell 2 _ rfl;have r3:=HR.cell 3 _ rfl;exact bodyPost_ret (v:=.agg #[.int .i64 kd,.int .i64 n,.slice A l c,.string (s.extract 0 4200)]) (by simp[results,Tryz.results12,go_sem,r0,r1,r2,r3]) rfl ⟨rfl,((Below.refl _ w).alloc zl (.cells #[.int .i64 kd,.int .i64 n,.slice A l c,.string (s.extract 0 4200)] 39)).alloc zs _⟩
  ·have HB:=hid ((ae w (.cells #[.int .i64 kd,.int .i64 n,.slice A l c,.string s] 39)));rw[if_neg h1,if_neg h2];have d1:decide ((l:Int)>1600)=false:=zt;have d2:decide ((s.size:Int)>4200)=false:=zt;go_in;go_wp2_with fail;have HR:=aF.n5 w (.cells #[.int .i64 kd,.int .i64 n,.slice A l c,.string s] 39) #[.int .i64 kd,.int .i64 n,.slice A l c,.string s] 39;have r0:=HR.cell 0 _ rfl;have r1:=HR.cell 1 _ rfl;have r2:=HR.cell 2 _ rfl;have r3:=HR.cell 3 _ rfl;exact bodyPost_ret (v:=.agg #[.int .i64 kd,.int .i64 n,.slice A l c,.string s]) (by simp[results,Tryz.results12,go_sem,r0,r1,r2,r3]) rfl ⟨rfl,((Below.refl _ w).alloc zl (.cells #[.int .i64 kd,.int .i64 n,.slice A l c,.string s] 39)).alloc zs _⟩
end Pg
end Go.Proofs.YtbhnbcadgmagpaaGreatDoor
