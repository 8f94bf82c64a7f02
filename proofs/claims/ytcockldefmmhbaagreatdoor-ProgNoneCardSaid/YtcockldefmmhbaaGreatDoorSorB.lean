/- sort.insertionSort_func. -/
import Derived.Test.YtcockldefmmhbaaGreatDoorSorA
import Derived.Test.YtcockldefmmhbaaGreatDoorJ3
import Derived.Test.YtcockldefmmhbaaGreatDoorProg
set_option linter.unusedVariables false
set_option linter.unusedSimpArgs false
set_option maxRecDepth 100000
namespace Go.Proofs.YtcockldefmmhbaaGreatDoor
open Go.ChangeShapes Go.WideShapes Go.ChangeAt Go.RowKit Go.Mtl Go.Lib
namespace So
open Go.Sort
section
variable {α : Type} [Inhabited α] {A : World → Array α → Prop} {b m n : Nat} {lt : α → α → Bool} {g : Nat} {lb : Array Value} {sf : Nat} {sb : Array Value} {W : World} {d : Array α}
set_option maxHeartbeats 2000000 in
theorem insertion_any (K : SortK Tryz.prog A b m n lt g lb sf sb) (h : A W d) (lo hi : Nat) (hab : lo ≤ hi) (hhi : hi ≤ n) :
    Calls Tryz.prog 235 #[.agg #[.func (.func g) #[] lb, .func (.func sf) #[] sb], .int .i64 lo, .int .i64 hi] W fun e w' => e = .returned (.tuple #[]) ∧ A w' (insertionSort lt d lo hi) ∧ Bar b W w' := by
  have HB := Lib.hid (SortB.start K h 242)
  have hsm := K.small
  have eg := K.enters
  clear h
  go_enter Tryz.func235, Tryz.ntmps235
  go_wp2
  go_loopw [6] (fun vi wr => ∃ (i : Nat) (dk : Array α), vi = .int .i64 i ∧ lo < i ∧ i ≤ hi + 1 ∧ SortB A b lb sb g sf 242 W W.heap.size wr dk ∧ insOuter lt lo hi i dk = insOuter lt lo hi (lo + 1) d) (fun vi _ => hi + 1 - (intOf vi).toNat)
  case atStart => exact ⟨lo + 1, d, by go_num, by omega, by omega, HB.out, rfl⟩
  case round =>
    obtain ⟨i, dk, rfl, hai, hib, hB, hO⟩ := hrel
    have HO := Lib.hid hO
    clear hO HB
    go_wp2
    · go_loopw [7] (fun vj wr2 => ∃ (j : Nat) (dj : Array α), vj = .int .i64 j ∧ lo ≤ j ∧ j ≤ i ∧ SortB A b lb sb g sf 242 W W.heap.size wr2 dj ∧ insInner lt lo j dj = insInner lt lo i dk) (fun vj _ => (intOf vj).toNat)
      case atStart => exact ⟨i, dk, rfl, by omega, Nat.le_refl _, hB, rfl⟩
      case round =>
        obtain ⟨j, dj, rfl, haj, hji, hBj, hI⟩ := hrel
        have hlt : i < hi := by assumption
        have c0 := hBj.c0
        have HBJ := Lib.hid hBj
        have HI := Lib.hid hI
        clear hB hBj hI
        have OUT : Hid ((j ≤ lo ∨ lt dj[j]! dj[j - 1]! = false) → ∀ w', SortB A b lb sb g sf 242 W W.heap.size w' dj → ∃ (i' : Nat) (dk' : Array α), Value.int .i64 ((i : Int) + 1) = .int .i64 (i' : Nat) ∧ lo < i' ∧ i' ≤ hi + 1 ∧ SortB A b lb sb g sf 242 W W.heap.size w' dk' ∧ insOuter lt lo hi i' dk' = insOuter lt lo hi (lo + 1) d) := fun hs w' hw =>
          ⟨i + 1, dj, by go_num, by omega, by omega, hw, by rw [← HO.out, insOuter_go _ _ _ _ _ hlt, ← HI.out, insInner_stop _ _ _ _ hs]⟩
        by_cases hja : lo < j
        · have hl := K.less j (j - 1) HBJ.out.row (by omega) (by omega)
          rw [show (((j - 1 : Nat) : Int)) = (j : Int) - 1 by omega] at hl
          cases hlv : lt dj[j]! dj[j - 1]! with
          | true =>
            rw [hlv] at hl
            go_wp2_with (go_at_fn g; refine hl.mono ?_; rintro e w' ⟨rfl, hb⟩; have hB2 := HBJ.out.next K hb; have c1 := hB2.c1; clear hb)
            obtain ⟨W', hs, ha, hbar⟩ := K.swap j (j - 1) hB2.row (by omega) (by omega)
            rw [show (((j - 1 : Nat) : Int)) = (j : Int) - 1 by omega] at hs
            rw [hs, Oper.upon_value]
            have hB3 := hB2.turn ha hbar
            clear hl hs ha hbar hB2 c1 c0
            go_wp2
            go_roundw
            case rel =>
              (repeat apply Exists.intro)
              exact ⟨⟨j - 1, swp dj j (j - 1), by congr 1 <;> omega, by omega, by omega, hB3, by rw [← HI.out, insInner_go lt lo j dj hja hlv]⟩, by rw [decide_eq_true hlt, show ((j - 1 : Nat) : Int) = (j : Int) - 1 by omega]⟩
            case measure => simp [intOf]; omega
          | false =>
            rw [hlv] at hl
            go_wp2_with (go_at_fn g; refine hl.mono ?_; rintro e w' ⟨rfl, hb⟩; have hB2 := HBJ.out.next K hb; clear hb)
            go_roundw
            case rel => exact OUT.out (Or.inr hlv) _ hB2
            case measure => simp [intOf]; omega
        · go_wp2
          go_roundw
          case rel => exact OUT.out (Or.inl (by omega)) _ HBJ.out
          case measure => simp [intOf]; omega
    · have hge : ¬ i < hi := by assumption
      go_end0
      exact ⟨rfl, by unfold insertionSort; rw [← HO.out, insOuter_stop _ _ _ _ _ hge]; exact hB.row, hB.bar⟩
end
end So
end Go.Proofs.YtcockldefmmhbaaGreatDoor
