/- The fixed fact of package mantletlaw02 holds; the walks of SumAdds and SumEdits. -/
import Derived.Test.YtapcjjhbdhkhhaaDoorSumE
import Derived.Test.YtapcjjhbdhkhhaaDoorComO
set_option linter.unusedVariables false
namespace Go.Proofs.YtapcjjhbdhkhhaaDoor
open Go.ChangeShapes Go.WideShapes Go.ChangeAt Go.RowKit Go.Mtl
namespace Sm
open SumM (norm add upto norm_big norm_small add_le upto_zero upto_le upto_step upto_word upto_last upto_done norm_le)

theorem of_aw (g : Nat) (w : World) (h : w.heap[g]? = some (.cells #[.int .u8 69, .int .u8 0, .int .u8 0, .int .u8 60] 5 (0, 0))) :
    Calls Tryd.prog 30 #[.slice (some ⟨g, 0, none⟩) 4 4] w fun e w' => e = .returned (.int .u16 47811) ∧ w = w' := by
  have := of_any _ 4 4 [69, 0, 0, 60] w _ (bts_row w g _ _ [69, 0, 0, 60] h (by rfl)) (by omega) (by omega)
  rwa [show (65535 - add 0 [69, 0, 0, 60] : Nat) = 47811 by decide] at this
theorem add_aw (g : Nat) (w : World) (h : w.heap[g]? = some (.cells #[.int .u8 255, .int .u8 255, .int .u8 0, .int .u8 1] 5 (0, 0))) :
    Calls Tryd.prog 49 #[.int .u16 0, .slice (some ⟨g, 0, none⟩) 4 4] w fun e w' => e = .returned (.int .u16 1) ∧ w = w' := by
  have := add_any 0 _ 4 4 [255, 255, 0, 1] w _ (bts_row w g _ _ [255, 255, 0, 1] h (by rfl)) (by omega) (by omega) (by omega)
  rwa [show (add 0 [255, 255, 0, 1] : Nat) = 1 by decide] at this
theorem add_aw2 (g : Nat) (w : World) (h : w.heap[g]? = some (.cells #[.int .u8 7] 5 (0, 0))) :
    Calls Tryd.prog 49 #[.int .u16 0, .slice (some ⟨g, 0, none⟩) 1 1] w fun e w' => e = .returned (.int .u16 1792) ∧ w = w' := by
  have := add_any 0 _ 1 1 [7] w _ (bts_row w g _ _ [7] h (by rfl)) (by omega) (by omega) (by omega)
  rwa [show (add 0 [7] : Nat) = 1792 by decide] at this
theorem new2 (W : World) (X Y : Obj) : ((W.alloc X).alloc Y).heap[W.heap.size + 1]? = some Y := by
  have := heap_alloc_new (W.alloc X) Y
  rwa [World.size_alloc] at this
theorem new3 (W : World) (X Y Z : Obj) : (((W.alloc X).alloc Y).alloc Z).heap[W.heap.size + 1 + 1]? = some Z := by
  have := heap_alloc_new ((W.alloc X).alloc Y) Z
  rwa [World.size_alloc, World.size_alloc] at this

end Sm
end Go.Proofs.YtapcjjhbdhkhhaaDoor
