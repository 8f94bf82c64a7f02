/- The fixed fact of package mantletlaw01 holds. -/
import Derived.Test.YtbgmkhkcmnmmfaaFldB
import Derived.Deep.RegionWith
import Derived.Deep.RegionHeldLaw
set_option linter.unusedVariables false
namespace Go.Proofs.Ytbgmkhkcmnmmfaa
open Go.ChangeShapes Go.WideShapes Go.ChangeAt Go.RowKit Go.Mtl
namespace Fld
open FldM

theorem get_aw (w : World) : Calls Try.prog 9 #[.int .u64 43981, .int .i64 4, .int .i64 8] w fun e w' => e = .returned (.int .u64 188) ∧ ∃ n, w' = w.drewN n := by
  have := get_yes 43981 4 8 (by omega) (by omega) (by omega) (by omega) (by omega) w
  rwa [show getI 43981 4 8 = 188 by decide] at this
theorem put_aw (w : World) : Calls Try.prog 11 #[.int .u64 43981, .int .i64 4, .int .i64 8, .int .u64 291] w fun e w' => e = .returned (.int .u64 41533) ∧ ∃ n, w' = w.drewN n := by
  have := put_yes 43981 4 8 291 (by omega) (by omega) (by omega) (by omega) (by omega) (by omega) (by omega) w
  rwa [show putI 43981 4 8 291 = 41533 by decide] at this
theorem sign_aw (w : World) : Calls Try.prog 13 #[.int .u64 15, .int .i64 4] w fun e w' => e = .returned (.int .i64 (-1)) ∧ w = w' := by
  have := sign_yes 15 4 (by omega) (by omega) (by omega) (by omega) w
  rwa [show signI 15 4 = -1 by decide] at this
theorem sign_aw2 (w : World) : Calls Try.prog 13 #[.int .u64 7, .int .i64 4] w fun e w' => e = .returned (.int .i64 7) ∧ w = w' := by
  have := sign_yes 7 4 (by omega) (by omega) (by omega) (by omega) w
  rwa [show signI 7 4 = 7 by decide] at this
theorem cut_aw (w : World) : Calls Try.prog 17 #[.int .u64 258, .int .i64 3] w (MadeB w [0, 1, 2]) := by
  have := cut_yes 258 3 (by omega) (by omega) (by omega) (by omega) w
  rwa [show cutN (258 : Int).toNat 3 = [0, 1, 2] by decide] at this
theorem num_aw (g : Nat) (w : World) (h : w.heap[g]? = some (.cells #[.int .u8 9, .int .u8 1, .int .u8 2] 5 (0, 0))) :
    Calls Try.prog 15 #[.slice (some ⟨g, 0, none⟩) 3 3, .int .i64 1, .int .i64 2] w fun e w' => e = .returned (.tuple #[.int .u64 258, .bool true]) ∧ w = w' := by
  have := num_yes g 0 3 3 [9, 1, 2] 1 2 rfl (by omega) (by omega) (by omega) (by omega) (by omega) w (fun j hj => by
    rw [cell_of_row w g _ _ _ _ h]
    have : j = 0 ∨ j = 1 ∨ j = 2 := by omega
    rcases this with rfl | rfl | rfl <;> rfl)
  rwa [show numI [9, 1, 2] 1 2 = 258 by decide] at this

/-- The literal of the three bytes, in a world that keeps what was there as it was made. -/
abbrev lit3 : Obj := .cells #[.int .u8 0, .int .u8 1, .int .u8 2] 5
theorem lit_bts (w : World) : Bts (w.alloc lit3) (w.heap.size + 1) (some ⟨w.heap.size, 0, none⟩) 3 [0, 1, 2] := by
  refine ⟨rfl, fun _ => ⟨_, _, rfl, by omega, fun j hj => ?_⟩⟩
  rw [cell_of_row _ _ _ _ _ _ (heap_alloc_new _ _)]
  have : j = 0 ∨ j = 1 ∨ j = 2 := by omega
  rcases this with rfl | rfl | rfl <;> rfl
theorem text_at {w w2 : World} {B n c : Nat} {A : Option Addr} {bs : List UInt8} (h : Bts w B A n bs) (h2 : Below B w w2) :
    (convert 29 9 (.slice A n c)).run Try.prog w2 = .ok (.string (textOf bs)) w2 :=
  run_text _ _ 5 Try.underlying29 Try.underlying5 Try.underlying9 (h.below h2)

theorem lit_afterA {W w2 : World} {Y : Obj} {m : Nat} (h : Below (((W.alloc Y).drewN m).alloc lit3).heap.size (((W.alloc Y).drewN m).alloc lit3) w2) :
    (convert 29 9 (.slice (some ⟨W.heap.size + 1, 0, none⟩) 3 3)).run Try.prog w2 = .ok (.string (textOf [0, 1, 2])) w2 := by
  have h1 := lit_bts ((W.alloc Y).drewN m)
  simp only [World.heap_drewN, World.size_alloc] at h1 h
  exact text_at h1 h
theorem lit_afterB {W w2 : World} {Y : Obj} {m : Nat} (h : Below (((W.alloc Y).alloc lit3).drewN m).heap.size (((W.alloc Y).alloc lit3).drewN m) w2) :
    (convert 29 9 (.slice (some ⟨W.heap.size + 1, 0, none⟩) 3 3)).run Try.prog w2 = .ok (.string (textOf [0, 1, 2])) w2 := by
  have h1 := (lit_bts (W.alloc Y)).drewN m
  simp only [World.heap_drewN, World.size_alloc] at h1 h
  exact text_at h1 h
theorem lit_afterC {W w2 : World} {Y : Obj} {m n : Nat} (h : Below ((((W.alloc Y).drewN n).alloc lit3).drewN m).heap.size ((((W.alloc Y).drewN n).alloc lit3).drewN m) w2) :
    (convert 29 9 (.slice (some ⟨W.heap.size + 1, 0, none⟩) 3 3)).run Try.prog w2 = .ok (.string (textOf [0, 1, 2])) w2 := by
  have h1 := (lit_bts ((W.alloc Y).drewN n)).drewN m
  simp only [World.heap_drewN, World.size_alloc] at h1 h
  exact text_at h1 h

theorem fin1 {W w2 : World} {Y : Obj} {m : Nat} (h : Below ((W.alloc Y).drewN m).heap.size ((W.alloc Y).drewN m) w2) : Below W.heap.size W w2 := by
  have h1 : Below W.heap.size W (W.alloc Y) := (Below.refl _ _).alloc (Nat.le_refl _) _
  refine Below.trans (b := (W.alloc Y).drewN m) ⟨h1.os, h1.tape, h1.output, h1.size, h1.block⟩ (h.mono ?_)
  rw [World.heap_drewN, World.size_alloc]; omega
theorem fin2 {W w2 : World} {Y Z : Obj} {m : Nat} (h : Below (((W.alloc Y).drewN m).alloc Z).heap.size (((W.alloc Y).drewN m).alloc Z) w2) : Below W.heap.size W w2 := by
  have h1 : Below W.heap.size W ((W.alloc Y).drewN m) := fin1 (Below.refl _ _)
  have h2 := h1.alloc h1.size Z
  exact h2.trans (h.mono h2.size)

set_option maxHeartbeats 4000000 in
theorem awake_any (W : World) : Calls Try.prog 8 #[] W fun e w' => e = .returned (.bool true) ∧ Below W.heap.size W w' := by
  go_enter Try.func8, Try.ntmps8
  go_wp2_with (go_at_call 15; refine (num_aw _ _ (heap_alloc_new _ _)).mono ?_; rintro e w' ⟨rfl, rfl⟩)
  have hl0 : ∀ m : Nat, (convert 29 9 (.slice (some ⟨W.heap.size + 1, 0, none⟩) 3 3)).run Try.prog (((W.alloc (.cells #[.int .u8 9, .int .u8 1, .int .u8 2] 5)).drewN m).alloc (.cells #[.int .u8 0, .int .u8 1, .int .u8 2] 5))
      = .ok (.string (textOf [0, 1, 2])) (((W.alloc (.cells #[.int .u8 9, .int .u8 1, .int .u8 2] 5)).drewN m).alloc (.cells #[.int .u8 0, .int .u8 1, .int .u8 2] 5)) :=
    fun m => lit_afterA (Below.refl _ _)
  go_region_held_law (fun _ => True) (first | trivial) (first
    | (go_at_call 9; refine (get_aw _).mono ?_; rintro e w' ⟨rfl, n1, rfl⟩)
    | (go_at_call 11; refine (put_aw _).mono ?_; rintro e w' ⟨rfl, n1, rfl⟩)
    | (go_at_call_of 13 (15 : Int); refine (sign_aw _).mono ?_; rintro e w' ⟨rfl, rfl⟩)
    | (go_at_call_of 13 (7 : Int); refine (sign_aw2 _).mono ?_; rintro e w' ⟨rfl, rfl⟩)
    | (go_at_call 17; refine (cut_aw _).mono ?_; rintro e w' ⟨A, n, c, rfl, hb, _, hbel⟩
       have hcv := text_at (c := c) hb (Below.refl _ _)
       have hcv2 := text_at (c := c) hb ((Below.refl _ _).alloc (Nat.le_refl _) lit3)
       have hlt := text_at (c := 3) (lit_bts w') (Below.refl _ _)
       have hbs := hbel.size
       try (first | have hl2 := lit_afterA hbel | have hl2 := lit_afterB hbel | have hl2 := lit_afterC hbel)))
  all_goals
    go_wp2
    go_ret
    refine ⟨rfl, ?_⟩
    first | exact fin1 hbel | exact (fin1 hbel).alloc (fin1 hbel).size _ | exact fin2 hbel

end Fld
end Go.Proofs.Ytbgmkhkcmnmmfaa
