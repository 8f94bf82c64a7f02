/- Layer 17: arrays of sixteen integers; the contracts of clamp, Until and of the reference's Until. -/
import Derived.Test.YtcockldefmmhbaaGreatDoorJ3
import Derived.Test.YtcockldefmmhbaaGreatDoorRows
import Derived.Laws.Rows
set_option linter.unusedVariables false
set_option linter.unusedSimpArgs false
namespace Go.Proofs.YtcockldefmmhbaaGreatDoor
open Go.ChangeShapes Go.WideShapes Go.ChangeAt Go.RowKit Go.Mtl Go.Lib
namespace Fs

/-- Sixteen integers of a machine word. -/
structure Six (cs : Array Value) (t : Nat → Int) : Prop where
  size : cs.size = 16
  cell : ∀ i, i < 16 → cs[i]? = some (.int .i64 (t i))
  fit : ∀ i, i < 16 → -9223372036854775808 ≤ t i ∧ t i ≤ 9223372036854775807

def clampN (n lo hi : Int) : Int := min (max n lo) hi
/-- The timeout of a state. -/
def tmo (t : Nat → Int) (s : Int) : Int := if 0 ≤ s ∧ s < 16 then t s.toNat else 0
def untN (t : Nat → Int) (s c : Int) : Int := min (clampN c 0 1099511627775 + clampN (tmo t s) 1 1048576) 1099511627775

theorem ret_int {k : IntKind} {a b : Int} (h : a = b) : Ending.returned (.int k a) = .returned (.int k b) := by rw [h]
theorem clamp_any (n lo hi : Int) (W : World) : Calls Tryz.prog 281 #[.int .i64 n, .int .i64 lo, .int .i64 hi] W fun e w' => e = .returned (.int .i64 (clampN n lo hi)) ∧ w' = W := by
  unfold clampN
  go_enter Tryz.func281, Tryz.ntmps281
  go_wp2_with fail
  all_goals
    go_ret
    exact ⟨ret_int (by omega), rfl⟩

set_option maxHeartbeats 1000000 in
theorem until_any (cs : Array Value) (t : Nat → Int) (H : Six cs t) (s c : Int) (W : World) :
    Calls Tryz.prog 254 #[.agg cs, .int .i64 s, .int .i64 c] W fun e w' => e = .returned (.int .i64 (untN t s c)) ∧ Below W.heap.size W w' := by
  have HC := Lib.hid (fun n lo hi => clamp_any n lo hi)
  by_cases hs : 0 ≤ s ∧ s < 16
  · obtain ⟨k, rfl⟩ : ∃ k : Nat, s = (k : Int) := ⟨s.toNat, by omega⟩
    have hk : k < 16 := by omega
    have HB := Lib.hid ((Below.refl W.heap.size W).alloc (Nat.le_refl _) (.cells cs 22))
    have x0 := (Blk.box W cs 22).cell k _ (H.cell k hk)
    have HU : Hid (untN t (k : Int) c = min (clampN c 0 1099511627775 + clampN (t k) 1 1048576) 1099511627775) := by
      show _ = _
      unfold untN tmo
      rw [if_pos hs, Int.toNat_natCast]
    have u0 : ∀ n, 0 ≤ clampN n 0 1099511627775 ∧ clampN n 0 1099511627775 ≤ 1099511627775 := fun n => by unfold clampN; omega
    have u1 : ∀ n, 1 ≤ clampN n 1 1048576 ∧ clampN n 1 1048576 ≤ 1048576 := fun n => by unfold clampN; omega
    obtain ⟨a0, a1⟩ := u0 c
    obtain ⟨b0, b1⟩ := u1 (t k)
    clear u0 u1 H hs
    have C0 := Lib.hid (HC.out c 0 1099511627775)
    have C1 := Lib.hid (HC.out (t k) 1 1048576)
    clear HC
    generalize clampN c 0 1099511627775 = A at *
    generalize clampN (t k) 1 1048576 = B at *
    go_enter Tryz.func254, Tryz.ntmps254
    go_wp2_with fail
    go_at_call 281
    refine (C0.out _).mono ?_
    rintro e w' ⟨rfl, rfl⟩
    go_wp2_with fail
    go_at_call 281
    refine (C1.out _).mono ?_
    rintro e w' ⟨rfl, rfl⟩
    go_wp2_with fail
    all_goals
      go_ret
      exact ⟨ret_int (by rw [HU.out]; omega), HB.out⟩
  · have HB := Lib.hid ((Below.refl W.heap.size W).alloc (Nat.le_refl _) (.cells cs 22))
    have HU : Hid (untN t s c = min (clampN c 0 1099511627775 + clampN 0 1 1048576) 1099511627775) := by
      show _ = _
      unfold untN tmo
      rw [if_neg hs]
    have u0 : ∀ n, 0 ≤ clampN n 0 1099511627775 ∧ clampN n 0 1099511627775 ≤ 1099511627775 := fun n => by unfold clampN; omega
    have u1 : ∀ n, 1 ≤ clampN n 1 1048576 ∧ clampN n 1 1048576 ≤ 1048576 := fun n => by unfold clampN; omega
    obtain ⟨a0, a1⟩ := u0 c
    obtain ⟨b0, b1⟩ := u1 0
    clear u0 u1 H
    have C0 := Lib.hid (HC.out c 0 1099511627775)
    have C1 := Lib.hid (HC.out 0 1 1048576)
    clear HC
    generalize clampN c 0 1099511627775 = A at *
    generalize clampN 0 1 1048576 = B at *
    by_cases h0 : 0 ≤ s
    · have h1 : ¬ s < 16 := by omega
      clear hs
      go_enter Tryz.func254, Tryz.ntmps254
      go_wp2_with fail
      go_at_call 281
      refine (C0.out _).mono ?_
      rintro e w' ⟨rfl, rfl⟩
      go_wp2_with fail
      go_at_call 281
      refine (C1.out _).mono ?_
      rintro e w' ⟨rfl, rfl⟩
      go_wp2_with fail
      all_goals
        go_ret
        exact ⟨ret_int (by rw [HU.out]; omega), HB.out⟩
    · clear hs
      go_enter Tryz.func254, Tryz.ntmps254
      go_wp2_with fail
      go_at_call 281
      refine (C0.out _).mono ?_
      rintro e w' ⟨rfl, rfl⟩
      go_wp2_with fail
      go_at_call 281
      refine (C1.out _).mono ?_
      rintro e w' ⟨rfl, rfl⟩
      go_wp2_with fail
      all_goals
        go_ret
        exact ⟨ret_int (by rw [HU.out]; omega), HB.out⟩

end Fs
end Go.Proofs.YtcockldefmmhbaaGreatDoor
