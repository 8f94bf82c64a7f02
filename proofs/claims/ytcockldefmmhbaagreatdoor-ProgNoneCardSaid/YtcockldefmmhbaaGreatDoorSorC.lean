/- sort.siftDown_func. (Written by wip/tools/mkSorC.py.) -/
import Derived.Test.YtcockldefmmhbaaGreatDoorSorA
import Derived.Test.YtcockldefmmhbaaGreatDoorJ3
import Derived.Test.YtcockldefmmhbaaGreatDoorProg
import Derived.Sort.WalkB2
set_option linter.unusedVariables false
set_option linter.unusedSimpArgs false
set_option maxRecDepth 100000
namespace Go.Proofs.YtcockldefmmhbaaGreatDoor
open Go.ChangeShapes Go.WideShapes Go.ChangeAt Go.RowKit Go.Mtl Go.Lib
namespace So
open Go.Sort
section
variable {α : Type} [Inhabited α] {A : World → Array α → Prop} {b m n : Nat} {lt : α → α → Bool} {g : Nat} {lb : Array Value} {sf : Nat} {sb : Array Value} {W : World} {d : Array α}
set_option maxHeartbeats 4000000 in
theorem siftDown_any (K : SortK Tryz.prog A b m n lt g lb sf sb) (h : A W d) (lo hi first : Nat) (hlo : lo ≤ hi) (hb : first + hi ≤ n) :
    Calls Tryz.prog 270 #[.agg #[.func (.func g) #[] lb, .func (.func sf) #[] sb], .int .i64 lo, .int .i64 hi, .int .i64 first] W fun e w' => e = .returned (.tuple #[]) ∧ A w' (siftDown lt hi first lo d) ∧ Bar b W w' := by
  have HB := Lib.hid (SortB.start K h 242)
  have hsm := K.small
  have eg := K.enters
  clear h
  go_enter Tryz.func270, Tryz.ntmps270
  go_wp2
  go_loopw [8] (fun vi wr => ∃ (root : Nat) (dk : Array α), vi = .int .i64 root ∧ root ≤ hi ∧ SortB A b lb sb g sf 242 W W.heap.size wr dk ∧ siftDown lt hi first root dk = siftDown lt hi first lo d) (fun vi _ => hi - (intOf vi).toNat)
  case atStart => exact ⟨lo, d, rfl, hlo, HB.out, rfl⟩
  case round =>
    obtain ⟨root, dk, rfl, hr, hB, hS⟩ := hrel
    have HS := Lib.hid hS
    have HBK := Lib.hid hB
    have c0 := hB.c0
    clear hS HB hB
    by_cases h0 : hi ≤ 2 * root + 1
    · go_wp2
      go_end0
      exact ⟨rfl, by rw [← HS.out, sd_end lt dk h0]; exact HBK.out.row, HBK.out.bar⟩
    · by_cases h1 : 2 * root + 2 < hi
      · have hl := K.less (first + (2 * root + 1)) (first + (2 * root + 2)) HBK.out.row (by omega) (by omega)
        rw [show ((first + (2 * root + 1) : Nat) : Int) = (first : Int) + (2 * (root : Int) + 1) by omega, show ((first + (2 * root + 2) : Nat) : Int) = (first : Int) + (2 * (root : Int) + 1) + 1 by omega] at hl
        cases hlv : lt dk[first + (2 * root + 1)]! dk[first + (2 * root + 2)]! with
        | true =>
          rw [hlv] at hl
          go_wp2_with (go_at_fn g; refine hl.mono ?_; rintro e w2 ⟨rfl, hb2⟩; have HB2 := Lib.hid (HBK.out.next K hb2); have c02 := HB2.out.c0; clear hb2 c0)
          clear hl
          have hl2 := K.less (first + root) (first + (2 * root + 2)) HB2.out.row (by omega) (by omega)
          rw [show ((first + root : Nat) : Int) = (first : Int) + (root : Int) by omega, show ((first + (2 * root + 2) : Nat) : Int) = (first : Int) + (2 * (root : Int) + 1 + 1) by omega] at hl2
          cases hlw : lt dk[first + root]! dk[first + (2 * root + 2)]! with
          | true =>
            rw [hlw] at hl2
            go_wp2_with (go_at_fn g; refine hl2.mono ?_; rintro e w3 ⟨rfl, hb3⟩; have HB3 := Lib.hid (HB2.out.next K hb3); have c1 := HB3.out.c1; clear hb3)
            obtain ⟨W', hs, ha, hbar⟩ := K.swap (first + root) (first + (2 * root + 2)) HB3.out.row (by omega) (by omega)
            rw [show ((first + root : Nat) : Int) = (first : Int) + (root : Int) by omega, show ((first + (2 * root + 2) : Nat) : Int) = (first : Int) + (2 * (root : Int) + 1 + 1) by omega] at hs
            rw [hs, Oper.upon_value]
            have HB4 := Lib.hid (HB3.out.turn ha hbar)
            clear hl2 hs ha hbar c1
            go_wp2
            go_roundw
            case rel =>
              exact ⟨2 * root + 2, swp dk (first + root) (first + (2 * root + 2)), by congr 1 <;> omega, by omega, HB4.out, by rw [← HS.out]; exact (sd_right_go lt dk h1 hlv hlw).symm⟩
            case measure => simp [intOf]; omega
          | false =>
            rw [hlw] at hl2
            go_wp2_with (go_at_fn g; refine hl2.mono ?_; rintro e w3 ⟨rfl, hb3⟩; have HB3 := Lib.hid (HB2.out.next K hb3); clear hb3)
            exact bodyPost_ret (results_none rfl _ _ _) rfl ⟨rfl, by rw [← HS.out, sd_right_stop lt dk h1 hlv hlw]; exact HB3.out.row, HB3.out.bar⟩
        | false =>
          rw [hlv] at hl
          go_wp2_with (go_at_fn g; refine hl.mono ?_; rintro e w2 ⟨rfl, hb2⟩; have HB2 := Lib.hid (HBK.out.next K hb2); have c02 := HB2.out.c0; clear hb2 c0)
          clear hl
          have hl2 := K.less (first + root) (first + (2 * root + 1)) HB2.out.row (by omega) (by omega)
          rw [show ((first + root : Nat) : Int) = (first : Int) + (root : Int) by omega, show ((first + (2 * root + 1) : Nat) : Int) = (first : Int) + (2 * (root : Int) + 1) by omega] at hl2
          cases hlw : lt dk[first + root]! dk[first + (2 * root + 1)]! with
          | true =>
            rw [hlw] at hl2
            go_wp2_with (go_at_fn g; refine hl2.mono ?_; rintro e w3 ⟨rfl, hb3⟩; have HB3 := Lib.hid (HB2.out.next K hb3); have c1 := HB3.out.c1; clear hb3)
            obtain ⟨W', hs, ha, hbar⟩ := K.swap (first + root) (first + (2 * root + 1)) HB3.out.row (by omega) (by omega)
            rw [show ((first + root : Nat) : Int) = (first : Int) + (root : Int) by omega, show ((first + (2 * root + 1) : Nat) : Int) = (first : Int) + (2 * (root : Int) + 1) by omega] at hs
            rw [hs, Oper.upon_value]
            have HB4 := Lib.hid (HB3.out.turn ha hbar)
            clear hl2 hs ha hbar c1
            go_wp2
            go_roundw
            case rel =>
              exact ⟨2 * root + 1, swp dk (first + root) (first + (2 * root + 1)), by congr 1 <;> omega, by omega, HB4.out, by rw [← HS.out]; exact (sd_left_go lt dk (by omega) (fun _ => hlv) hlw).symm⟩
            case measure => simp [intOf]; omega
          | false =>
            rw [hlw] at hl2
            go_wp2_with (go_at_fn g; refine hl2.mono ?_; rintro e w3 ⟨rfl, hb3⟩; have HB3 := Lib.hid (HB2.out.next K hb3); clear hb3)
            exact bodyPost_ret (results_none rfl _ _ _) rfl ⟨rfl, by rw [← HS.out, sd_left_stop lt dk (by omega) (fun _ => hlv) hlw]; exact HB3.out.row, HB3.out.bar⟩
      · have HB2 := HBK
        have c02 := c0
        clear HBK
        have hl2 := K.less (first + root) (first + (2 * root + 1)) HB2.out.row (by omega) (by omega)
        rw [show ((first + root : Nat) : Int) = (first : Int) + (root : Int) by omega, show ((first + (2 * root + 1) : Nat) : Int) = (first : Int) + (2 * (root : Int) + 1) by omega] at hl2
        cases hlw : lt dk[first + root]! dk[first + (2 * root + 1)]! with
        | true =>
          rw [hlw] at hl2
          go_wp2_with (go_at_fn g; refine hl2.mono ?_; rintro e w3 ⟨rfl, hb3⟩; have HB3 := Lib.hid (HB2.out.next K hb3); have c1 := HB3.out.c1; clear hb3)
          obtain ⟨W', hs, ha, hbar⟩ := K.swap (first + root) (first + (2 * root + 1)) HB3.out.row (by omega) (by omega)
          rw [show ((first + root : Nat) : Int) = (first : Int) + (root : Int) by omega, show ((first + (2 * root + 1) : Nat) : Int) = (first : Int) + (2 * (root : Int) + 1) by omega] at hs
          rw [hs, Oper.upon_value]
          have HB4 := Lib.hid (HB3.out.turn ha hbar)
          clear hl2 hs ha hbar c1
          go_wp2
          go_roundw
          case rel =>
            exact ⟨2 * root + 1, swp dk (first + root) (first + (2 * root + 1)), by congr 1 <;> omega, by omega, HB4.out, by rw [← HS.out]; exact (sd_left_go lt dk (by omega) (fun h => absurd h h1) hlw).symm⟩
          case measure => simp [intOf]; omega
        | false =>
          rw [hlw] at hl2
          go_wp2_with (go_at_fn g; refine hl2.mono ?_; rintro e w3 ⟨rfl, hb3⟩; have HB3 := Lib.hid (HB2.out.next K hb3); clear hb3)
          exact bodyPost_ret (results_none rfl _ _ _) rfl ⟨rfl, by rw [← HS.out, sd_left_stop lt dk (by omega) (fun h => absurd h h1) hlw]; exact HB3.out.row, HB3.out.bar⟩
end
end So
end Go.Proofs.YtcockldefmmhbaaGreatDoor
