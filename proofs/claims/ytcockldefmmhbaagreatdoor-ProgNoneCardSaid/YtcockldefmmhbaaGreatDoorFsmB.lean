import Derived.Test.YtcockldefmmhbaaGreatDoorJ12
import Derived.Test.YtcockldefmmhbaaGreatDoorRows
import Derived.Laws.Rows
set_option linter.unusedVariables false
set_option linter.unusedSimpArgs false
namespace Go.Proofs.YtcockldefmmhbaaGreatDoor
open Go.ChangeShapes Go.WideShapes Go.ChangeAt Go.RowKit Go.Mtl Go.Lib
namespace Fs
structure Six (cs:Array Value) (t:Nat->Int):Prop where
 size:cs.size=16
 cell:∀ i,i < 16->cs[i]? = some (.int .i64 (t i))
 fit:∀ i,i < 16->-9223372036854775808<=t i/\t i<=9223372036854775807
def clampN (n lo hi:Int):Int:=min (max n lo) hi
def tmo (t:Nat->Int) (s:Int):Int:=if 0<=s/\s < 16 then t s.toNat else 0
def untN (t:Nat->Int) (s c:Int):Int:=min (clampN c 0 1099511627775+clampN (tmo t s) 1 1048576) 1099511627775
theorem ret_int {k:IntKind} {a b:Int} (h:a=b):Ending.returned (.int k a) = .returned (.int k b):=by rw [h]
theorem clamp_any (n lo hi:Int) (W:World):Calls Tryz.prog 281 #[.int .i64 n,.int .i64 lo,.int .i64 hi] W fun e w'=>e = .returned (.int .i64 (clampN n lo hi))/\w'=W:=by
 unfold clampN
 go_enter Tryz.func281,Tryz.ntmps281
 go_wp2_with fail
 all_goals
  go_ret
  exact ⟨ret_int (by omega),rfl⟩
end Fs
end Go.Proofs.YtcockldefmmhbaaGreatDoor
