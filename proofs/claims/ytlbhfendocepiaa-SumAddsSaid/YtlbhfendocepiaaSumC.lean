/- The walk of SumAdds. -/
import Derived.Test.YtlbhfendocepiaaSumB
set_option linter.unusedVariables false
namespace Go.Proofs.Ytlbhfendocepiaa
open Go.ChangeShapes Go.WideShapes Go.ChangeAt Go.RowKit Go.Mtl
namespace Sm
open SumM (norm add upto norm_big norm_small add_le upto_zero upto_le upto_step upto_word upto_last upto_done norm_le)

set_option maxHeartbeats 400000 in
theorem sumAdds_walk (a0 : Int) (a1 : Option Addr) (n1 c1 : Nat) (b1 : List UInt8) (w : World) (w0 : 0 ≤ a0 ∧ a0 ≤ 65535) (w1 : Bts w w.heap.size a1 n1 b1) (hc1 : n1 ≤ c1) (hm1 : c1 ≤ maxLen) :
    Calls Try.prog 3 #[.int .u16 a0, .slice a1 n1 c1] w fun e w' => e = .returned (.bool true) ∧ Below w.heap.size w w' := by
  unfold maxLen at hm1
  obtain ⟨s, rfl⟩ := Int.eq_ofNat_of_zero_le w0.1
  have hb0 := w1.take 3000
  have C0 := fun W => short_any a1 n1 c1 hc1 (by omega) W
  obtain ⟨m, hmm⟩ : ∃ m, min n1 3000 = m := ⟨_, rfl⟩
  have hmc : m ≤ c1 := by omega
  rw [hmm] at hb0 C0
  generalize b1.take 3000 = bs at hb0
  have C1 := fun W (h : Bts W w.heap.size a1 m bs) => add_any s a1 m c1 bs W _ h (by omega) (by omega) (by omega)
  have C2 := fun W (h : Bts W w.heap.size a1 m bs) => refAdd_any s a1 m c1 bs W _ h (by omega) (by omega) (by omega) (by omega)
  have C3 := fun W (h : Bts W w.heap.size a1 m bs) => ofI_any a1 m c1 bs W _ h (by omega) (by omega)
  have C4 : ∀ W, Bts W w.heap.size a1 m bs → Calls Try.prog 11 #[.int .i64 0, .slice a1 m c1] W fun e w' => e = .returned (.int .i64 (add 0 bs : Nat)) ∧ W = w' := fun W h => refAdd_any 0 a1 m c1 bs W _ h (by omega) (by omega) (by omega) (by omega)
  have hl := add_le s bs
  have hl0 := add_le 0 bs
  generalize add s bs = r at C1 C2 hl
  generalize add 0 bs = q at C3 C4 hl0
  have H0 := Lib.hid C0
  have H1 := Lib.hid C1
  have H2 := Lib.hid C2
  have H3 := Lib.hid C3
  have H4 := Lib.hid C4
  have HB := Lib.hid hb0
  clear C0 C1 C2 C3 C4 hb0 hmm w1
  go_enter Try.func3, Try.ntmps3
  go_wp2_with fail
  go_at_call 8
  refine (awake_any _).mono ?_
  rintro e w' ⟨rfl, hb⟩
  have HB2 := Lib.hid (HB.out.below hb)
  go_wp2_with (first
    | (go_at_call 10; refine (H0.out _).mono ?_; rintro e w' ⟨rfl, rfl⟩))
  go_at_call 9
  refine (H1.out _ HB2.out).mono ?_
  rintro e w' ⟨rfl, rfl⟩
  go_wp2_with (first
    | (go_at_call 10; refine (H0.out _).mono ?_; rintro e w' ⟨rfl, rfl⟩))
  go_at_call 11
  refine (H2.out _ HB2.out).mono ?_
  rintro e w' ⟨rfl, rfl⟩
  go_wp2_with (first
    | (go_at_call 10; refine (H0.out _).mono ?_; rintro e w' ⟨rfl, rfl⟩))
  go_at_call 12
  refine (H3.out _ HB2.out).mono ?_
  rintro e w' ⟨rfl, rfl⟩
  go_wp2_with (first
    | (go_at_call 10; refine (H0.out _).mono ?_; rintro e w' ⟨rfl, rfl⟩))
  go_at_call 11
  refine (H4.out _ HB2.out).mono ?_
  rintro e w' ⟨rfl, rfl⟩
  go_wp2_with fail
  go_ret
  exact ⟨rfl, hb⟩

end Sm
end Go.Proofs.Ytlbhfendocepiaa
