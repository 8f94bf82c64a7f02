/- Layer 16: the contracts of the reference's has, Open, Next. -/
import Derived.Test.YtmbdhcfhackgfaaTraB
set_option linter.unusedVariables false
set_option linter.unusedSimpArgs false
namespace Go.Proofs.Ytmbdhcfhackgfaa
open Go.ChangeShapes Go.WideShapes Go.ChangeAt Go.RowKit Go.Mtl Go.Lib
namespace Tr
open TraM (Step find kindN stN stB nextN nextB openN openB bitB refN refB nxN nxB)

theorem has_any (f d : Nat) (hf : f < 256) (hd : d = 1 ∨ d = 2 ∨ d = 4 ∨ d = 16) (W : World) : Calls Try.prog 22 #[.int .u8 (f : Int), .int .u8 (d : Int)] W fun e w' => e = .returned (.bool (bitB f d)) ∧ w' = W := by
  unfold bitB
  rcases hd with rfl | rfl | rfl | rfl
  all_goals
    go_enter Try.func22, Try.ntmps22
    go_wp2_with fail
    go_ret
    refine ⟨congrArg (fun b => Ending.returned (.bool b)) ?_, rfl⟩
    rw [Bool.eq_iff_iff, beq_iff_eq, beq_iff_eq]
    omega
theorem has1 (f : Nat) (hf : f < 256) (W : World) : Calls Try.prog 22 #[.int .u8 (f : Int), .int .u8 1] W fun e w' => e = .returned (.bool (bitB f 1)) ∧ w' = W := has_any f 1 hf (by omega) W
theorem has2 (f : Nat) (hf : f < 256) (W : World) : Calls Try.prog 22 #[.int .u8 (f : Int), .int .u8 2] W fun e w' => e = .returned (.bool (bitB f 2)) ∧ w' = W := has_any f 2 hf (by omega) W
theorem has4 (f : Nat) (hf : f < 256) (W : World) : Calls Try.prog 22 #[.int .u8 (f : Int), .int .u8 4] W fun e w' => e = .returned (.bool (bitB f 4)) ∧ w' = W := has_any f 4 hf (by omega) W
theorem has16 (f : Nat) (hf : f < 256) (W : World) : Calls Try.prog 22 #[.int .u8 (f : Int), .int .u8 16] W fun e w' => e = .returned (.bool (bitB f 16)) ∧ w' = W := has_any f 16 hf (by omega) W

set_option maxHeartbeats 1000000 in
theorem refOpen_any (f : Nat) (hf : f < 256) (W : World) : Calls Try.prog 15 #[.int .u8 (f : Int)] W fun e w' => e = .returned (.tuple #[.int .i64 (openN f), .bool (openB f)]) ∧ w' = W := by
  have h1 := Lib.hid (has1 f hf W)
  have h2 := Lib.hid (has2 f hf W)
  have h4 := Lib.hid (has4 f hf W)
  have h16 := Lib.hid (has16 f hf W)
  unfold openN
  rw [TraM.open_bits hf]
  generalize bitB f 1 = b1 at h1 ⊢
  generalize bitB f 2 = b2 at h2 ⊢
  generalize bitB f 4 = b4 at h4 ⊢
  generalize bitB f 16 = b16 at h16 ⊢
  cases b2
  · go_enter Try.func15, Try.ntmps15
    go_wp2_with fail
    go_at_call 22
    refine h2.out.mono ?_
    rintro e w' ⟨rfl, rfl⟩
    go_wp2_with fail
    go_ret2
    exact ⟨rfl, rfl⟩
  cases b16
  rotate_left
  · go_enter Try.func15, Try.ntmps15
    go_wp2_with fail
    go_at_call 22
    refine h2.out.mono ?_
    rintro e w' ⟨rfl, rfl⟩
    go_wp2_with fail
    go_at_call 22
    refine h16.out.mono ?_
    rintro e w' ⟨rfl, rfl⟩
    go_wp2_with fail
    go_ret2
    exact ⟨rfl, rfl⟩
  cases b1
  rotate_left
  · go_enter Try.func15, Try.ntmps15
    go_wp2_with fail
    go_at_call 22
    refine h2.out.mono ?_
    rintro e w' ⟨rfl, rfl⟩
    go_wp2_with fail
    go_at_call 22
    refine h16.out.mono ?_
    rintro e w' ⟨rfl, rfl⟩
    go_wp2_with fail
    go_at_call 22
    refine h1.out.mono ?_
    rintro e w' ⟨rfl, rfl⟩
    go_wp2_with fail
    go_ret2
    exact ⟨rfl, rfl⟩
  cases b4
  all_goals
    go_enter Try.func15, Try.ntmps15
    go_wp2_with fail
    go_at_call 22
    refine h2.out.mono ?_
    rintro e w' ⟨rfl, rfl⟩
    go_wp2_with fail
    go_at_call 22
    refine h16.out.mono ?_
    rintro e w' ⟨rfl, rfl⟩
    go_wp2_with fail
    go_at_call 22
    refine h1.out.mono ?_
    rintro e w' ⟨rfl, rfl⟩
    go_wp2_with fail
    go_at_call 22
    refine h4.out.mono ?_
    rintro e w' ⟨rfl, rfl⟩
    go_wp2_with fail
    go_ret2
    exact ⟨rfl, rfl⟩

set_option maxHeartbeats 4000000 in
theorem refNext_any (s : Int) (r : Bool) (f : Nat) (hs : -9223372036854775808 ≤ s ∧ s ≤ 9223372036854775807) (hf : f < 256) (W : World) :
    Calls Try.prog 18 #[.int .i64 s, .bool r, .int .u8 (f : Int)] W fun e w' => e = .returned (.tuple #[.int .i64 (nextN s r f), .bool (nextB s r f)]) ∧ w' = W := by
  have h1 := Lib.hid (has1 f hf W)
  have h2 := Lib.hid (has2 f hf W)
  have h4 := Lib.hid (has4 f hf W)
  have h16 := Lib.hid (has16 f hf W)
  obtain ⟨e1, e2⟩ := TraM.ref_is s r hf
  rw [← e1, ← e2]
  clear e1 e2
  generalize bitB f 1 = b1 at h1 ⊢
  generalize bitB f 2 = b2 at h2 ⊢
  generalize bitB f 4 = b4 at h4 ⊢
  generalize bitB f 16 = b16 at h16 ⊢
  by_cases hl : s < 1
  · go_enter Try.func18, Try.ntmps18
    go_wp2_with fail
    go_ret2
    unfold refN refB
    rw [if_pos hl, if_pos hl]
    exact ⟨rfl, rfl⟩
  by_cases hh : s > 7
  · go_enter Try.func18, Try.ntmps18
    go_wp2_with fail
    go_ret2
    unfold refN refB
    have hl' : ¬ s < 1 := by omega
    rw [if_neg hl', if_neg hl', if_pos hh, if_pos hh]
    exact ⟨rfl, rfl⟩
  obtain rfl | rfl | rfl | rfl | rfl | rfl | rfl : s = 1 ∨ s = 2 ∨ s = 3 ∨ s = 4 ∨ s = 5 ∨ s = 6 ∨ s = 7 := by omega
  all_goals
    clear hl hh hs
    go_enter Try.func18, Try.ntmps18
    go_wp2_with fail
    go_at_call 22
    refine h2.out.mono ?_
    rintro e w' ⟨rfl, rfl⟩
    go_wp2_with fail
    go_at_call 22
    refine h16.out.mono ?_
    rintro e w' ⟨rfl, rfl⟩
    go_wp2_with fail
    go_at_call 22
    refine h1.out.mono ?_
    rintro e w' ⟨rfl, rfl⟩
    go_wp2_with fail
    go_at_call 22
    refine h4.out.mono ?_
    rintro e w' ⟨rfl, rfl⟩
    clear h1 h2 h4 h16
    cases b1 <;> cases b2 <;> cases b4 <;> cases b16 <;> cases r
    all_goals
      go_wp2_with fail
      go_ret2
      exact ⟨rfl, rfl⟩
end Tr
end Go.Proofs.Ytmbdhcfhackgfaa
