/- sort.heapSort_func. -/
import Derived.Test.YtcockldefmmhbaaGreatDoorSorC
import Derived.Sort.WalkB3
set_option linter.unusedVariables false
set_option linter.unusedSimpArgs false
set_option maxRecDepth 100000
namespace Go.Proofs.YtcockldefmmhbaaGreatDoor
open Go.ChangeShapes Go.WideShapes Go.ChangeAt Go.RowKit Go.Mtl Go.Lib
namespace So
open Go.Sort
section
variable {α : Type} [Inhabited α] {A : World → Array α → Prop} {b m n : Nat} {lt : α → α → Bool} {g : Nat} {lb : Array Value} {sf : Nat} {sb : Array Value} {W : World} {d : Array α}
set_option maxHeartbeats 4000000 in
theorem heapSort_any (K : SortK Tryz.prog A b m n lt g lb sf sb) (h : A W d) (lo hi : Nat) (hab : lo ≤ hi) (hb : hi ≤ n) :
    Calls Tryz.prog 236 #[.agg #[.func (.func g) #[] lb, .func (.func sf) #[] sb], .int .i64 lo, .int .i64 hi] W fun e w' => e = .returned (.tuple #[]) ∧ A w' (heapSort lt d lo hi) ∧ Bar b W w' := by
  have HB := Lib.hid (SortB.start K h 242)
  have hsm := K.small
  have eg := K.enters
  have hst := half_start hab
  clear h
  go_enter Tryz.func236, Tryz.ntmps236
  go_wp2
  go_loopw [9] (fun vi wr => ∃ (k : Nat) (dk : Array α), vi = .int .i64 ((k : Int) - 1) ∧ k ≤ (hi - lo - 1) / 2 + 1 ∧ SortB A b lb sb g sf 242 W W.heap.size wr dk ∧ heapBuild lt (hi - lo) lo k dk = heapBuild lt (hi - lo) lo ((hi - lo - 1) / 2 + 1) d) (fun vi _ => (intOf vi + 1).toNat)
  case atStart => exact ⟨(hi - lo - 1) / 2 + 1, d, by congr 1; omega, Nat.le_refl _, HB.out, rfl⟩
  case round =>
    obtain ⟨k, dk, rfl, hk, hB, hS⟩ := hrel
    have HS := Lib.hid hS
    have HBK := Lib.hid hB
    clear hS HB hB hst
    cases k with
    | zero =>
      have HP : Hid (dk = heapBuild lt (hi - lo) lo ((hi - lo - 1) / 2 + 1) d) := HS.out
      generalize hy : (((0 : Nat) : Int) - 1) = y
      have hy0 : y < 0 := by omega
      clear hy
      go_wp2
      go_loopw [10] (fun vi wr => ∃ (k : Nat) (dk : Array α), vi = .int .i64 ((k : Int) - 1) ∧ k ≤ hi - lo ∧ SortB A b lb sb g sf 242 W W.heap.size wr dk ∧ heapPop lt lo k dk = heapSort lt d lo hi) (fun vi _ => (intOf vi + 1).toNat)
      case atStart => exact ⟨hi - lo, dk, by congr 1; omega, Nat.le_refl _, HBK.out, by unfold heapSort; rw [← HP.out]⟩
      case round =>
        obtain ⟨k, dj, rfl, hk2, hB, hS⟩ := hrel
        have HS2 := Lib.hid hS
        have HBJ := Lib.hid hB
        clear hS hB HBK HP HS
        cases k with
        | zero =>
          go_wp2
          go_end0
          exact ⟨rfl, by rw [← HS2.out]; exact HBJ.out.row, HBJ.out.bar⟩
        | succ k =>
          have c1 := HBJ.out.c1
          obtain ⟨W', hs, ha, hbar⟩ := K.swap lo (lo + k) HBJ.out.row (by omega) (by omega)
          generalize hz : (((k + 1 : Nat) : Int) - 1) = z
          rw [show ((lo + k : Nat) : Int) = (lo : Int) + z by omega] at hs
          have HB4 := Lib.hid (HBJ.out.turn ha hbar)
          have d0 := HB4.out.c0
          have d1 := HB4.out.c1
          clear ha hbar
          have hd := siftDown_any K HB4.out.row 0 k lo (by omega) (by omega)
          rw [show ((k : Nat) : Int) = z by omega] at hd
          go_wp2_with (go_at_call 270; refine hd.mono ?_; rintro e w3 ⟨rfl, ha, hbar⟩; have HB5 := Lib.hid (HB4.out.turn ha hbar); clear ha hbar hd c1 d0 d1 hs)
          go_roundw
          case rel => exact ⟨k, _, by congr 1; omega, by omega, HB5.out, HS2.out⟩
          case measure => simp [intOf]; omega
    | succ k =>
      have c0 := HBK.out.c0
      have c1 := HBK.out.c1
      have hd := siftDown_any K HBK.out.row k (hi - lo) lo (by omega) (by omega)
      generalize hz : (((k + 1 : Nat) : Int) - 1) = z
      rw [show ((k : Nat) : Int) = z by omega, show ((hi - lo : Nat) : Int) = (hi : Int) - (lo : Int) by omega] at hd
      go_wp2_with (go_at_call 270; refine hd.mono ?_; rintro e w3 ⟨rfl, ha, hbar⟩; have HB5 := Lib.hid (HBK.out.turn ha hbar); clear ha hbar hd c0 c1)
      go_roundw
      case rel => exact ⟨k, _, by congr 1; omega, by omega, HB5.out, HS.out⟩
      case measure => simp [intOf]; omega
end
end So
end Go.Proofs.YtcockldefmmhbaaGreatDoor
