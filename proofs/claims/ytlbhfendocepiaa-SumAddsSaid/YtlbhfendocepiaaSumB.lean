/- The fixed fact of package mantletlaw02 holds; the walks of SumAdds and SumEdits. -/
import Derived.Test.YtlbhfendocepiaaSumE
import Derived.Test.YtlbhfendocepiaaComO
set_option linter.unusedVariables false
namespace Go.Proofs.Ytlbhfendocepiaa
open Go.ChangeShapes Go.WideShapes Go.ChangeAt Go.RowKit Go.Mtl
namespace Sm
open SumM (norm add upto norm_big norm_small add_le upto_zero upto_le upto_step upto_word upto_last upto_done norm_le)

theorem of_aw (g : Nat) (w : World) (h : w.heap[g]? = some (.cells #[.int .u8 69, .int .u8 0, .int .u8 0, .int .u8 60] 5 (0, 0))) :
    Calls Try.prog 12 #[.slice (some ⟨g, 0, none⟩) 4 4] w fun e w' => e = .returned (.int .u16 47811) ∧ w = w' := by
  have := of_any _ 4 4 [69, 0, 0, 60] w _ (bts_row w g _ _ [69, 0, 0, 60] h (by rfl)) (by omega) (by omega)
  rwa [show (65535 - add 0 [69, 0, 0, 60] : Nat) = 47811 by decide] at this
theorem add_aw (g : Nat) (w : World) (h : w.heap[g]? = some (.cells #[.int .u8 255, .int .u8 255, .int .u8 0, .int .u8 1] 5 (0, 0))) :
    Calls Try.prog 9 #[.int .u16 0, .slice (some ⟨g, 0, none⟩) 4 4] w fun e w' => e = .returned (.int .u16 1) ∧ w = w' := by
  have := add_any 0 _ 4 4 [255, 255, 0, 1] w _ (bts_row w g _ _ [255, 255, 0, 1] h (by rfl)) (by omega) (by omega) (by omega)
  rwa [show (add 0 [255, 255, 0, 1] : Nat) = 1 by decide] at this
theorem add_aw2 (g : Nat) (w : World) (h : w.heap[g]? = some (.cells #[.int .u8 7] 5 (0, 0))) :
    Calls Try.prog 9 #[.int .u16 0, .slice (some ⟨g, 0, none⟩) 1 1] w fun e w' => e = .returned (.int .u16 1792) ∧ w = w' := by
  have := add_any 0 _ 1 1 [7] w _ (bts_row w g _ _ [7] h (by rfl)) (by omega) (by omega) (by omega)
  rwa [show (add 0 [7] : Nat) = 1792 by decide] at this
theorem edit_aw (w : World) : Calls Try.prog 13 #[.int .u16 47811, .int .u16 60, .int .u16 61] w fun e w' => e = .returned (.int .u16 47810) ∧ w = w' := by
  have := edit_any 47811 60 61 (by omega) (by omega) (by omega) w
  rwa [show edit 47811 60 61 = 47810 by decide +kernel] at this

theorem new2 (W : World) (X Y : Obj) : ((W.alloc X).alloc Y).heap[W.heap.size + 1]? = some Y := by
  have := heap_alloc_new (W.alloc X) Y
  rwa [World.size_alloc] at this
theorem new3 (W : World) (X Y Z : Obj) : (((W.alloc X).alloc Y).alloc Z).heap[W.heap.size + 1 + 1]? = some Z := by
  have := heap_alloc_new ((W.alloc X).alloc Y) Z
  rwa [World.size_alloc, World.size_alloc] at this

theorem awake_any (W : World) : Calls Try.prog 8 #[] W fun e w' => e = .returned (.bool true) ∧ Below W.heap.size W w' := by
  go_enter Try.func8, Try.ntmps8
  go_wp2_with fail
  go_at_call 12
  refine (of_aw _ _ (heap_alloc_new _ _)).mono ?_
  rintro e w' ⟨rfl, rfl⟩
  go_wp2_with fail
  go_at_call 9
  refine (add_aw _ _ (new2 _ _ _)).mono ?_
  rintro e w' ⟨rfl, rfl⟩
  go_wp2_with fail
  go_at_call 9
  refine (add_aw2 _ _ (by first | exact new3 _ _ _ _)).mono ?_
  rintro e w' ⟨rfl, rfl⟩
  go_wp2_with fail
  go_at_call 13
  refine (edit_aw _).mono ?_
  rintro e w' ⟨rfl, rfl⟩
  go_wp2_with fail
  go_ret
  refine ⟨rfl, ?_⟩
  exact (((Below.refl _ _).alloc (Nat.le_refl _) _).alloc (by simp) _).alloc (by simp; omega) _

theorem sumEdits_walk (a0 a1 a2 : Int) (w : World) (w0 : 0 ≤ a0 ∧ a0 ≤ 65535) (w1 : 0 ≤ a1 ∧ a1 ≤ 65535) (w2 : 0 ≤ a2 ∧ a2 ≤ 65535) :
    Calls Try.prog 4 #[.int .u16 a0, .int .u16 a1, .int .u16 a2] w fun e w' => e = .returned (.bool true) ∧ Below w.heap.size w w' := by
  obtain ⟨k, rfl⟩ := Int.eq_ofNat_of_zero_le w0.1
  obtain ⟨a, rfl⟩ := Int.eq_ofNat_of_zero_le w1.1
  obtain ⟨b, rfl⟩ := Int.eq_ofNat_of_zero_le w2.1
  have C1 := fun W => edit_any k a b (by omega) (by omega) (by omega) W
  have C2 := fun W => refEdit_any k a b (by omega) (by omega) (by omega) W
  have hl := edit_le k a b
  generalize edit k a b = r at C1 C2 hl
  have H1 := Lib.hid C1
  have H2 := Lib.hid C2
  clear C1 C2
  go_enter Try.func4, Try.ntmps4
  go_wp2_with (first
    | (go_at_call 8; refine (awake_any _).mono ?_; rintro e w' ⟨rfl, hb⟩)
    | (go_at_call 13; refine (H1.out _).mono ?_; rintro e w' ⟨rfl, rfl⟩)
    | (go_at_call 14; refine (H2.out _).mono ?_; rintro e w' ⟨rfl, rfl⟩))
  go_ret
  exact ⟨rfl, hb⟩

end Sm
end Go.Proofs.Ytlbhfendocepiaa
