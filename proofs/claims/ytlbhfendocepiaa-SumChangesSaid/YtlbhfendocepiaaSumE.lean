/- Contracts of Edit, of package sum and of its reference. -/
import Derived.Test.YtlbhfendocepiaaRows
import Derived.Test.YtlbhfendocepiaaSumA
import Derived.WalkKit
import Derived.ProofKit
import Derived.OpenShut
import Derived.BigQuiet
import Derived.Deep.RegionWith
import Derived.Lib.Hide
set_option linter.unusedVariables false
namespace Go.Proofs.Ytlbhfendocepiaa
open Go.ChangeShapes Go.WideShapes Go.ChangeAt Go.RowKit Go.Mtl
namespace Sm
open SumM (norm add upto norm_big norm_small add_le upto_zero upto_le upto_step upto_word upto_last upto_done norm_le)

/-- An edited checksum. -/
def edit (k a b : Nat) : Nat := 65535 - norm (norm ((65535 - k) + (65535 - a)) + b)
theorem edit_le (k a b : Nat) : edit k a b ≤ 65535 := by unfold edit; omega
set_option maxHeartbeats 400000 in
theorem edit_any (k a b : Nat) (hk : k ≤ 65535) (ha : a ≤ 65535) (hb : b ≤ 65535) (W : World) :
    Calls Try.prog 13 #[.int .u16 (k : Int), .int .u16 (a : Int), .int .u16 (b : Int)] W fun e w' => e = .returned (.int .u16 (edit k a b : Nat)) ∧ W = w' := by
  obtain ⟨p, hp⟩ : ∃ p, norm ((65535 - k) + (65535 - a)) = p := ⟨_, rfl⟩
  obtain ⟨q, hq⟩ : ∃ q, norm (p + b) = q := ⟨_, rfl⟩
  have hpl : p ≤ 65535 := by rw [← hp]; exact norm_le _
  have hql : q ≤ 65535 := by rw [← hq]; exact norm_le _
  obtain ⟨r, hr⟩ : ∃ r, edit k a b = r := ⟨_, rfl⟩
  have HR : Hid ((r : Int) = 65535 - (q : Int)) := by show _ = _; rw [← hr]; unfold edit; rw [hp, hq]; omega
  rw [hr]
  have HP := Lib.hid hp
  have HQ := Lib.hid hq
  have HF := Lib.hid (not16i q hql)
  clear hp hq hr
  go_enter Try.func13, Try.ntmps13
  go_wp2_with fail
  go_at_call 15
  rw [not16i k hk, not16i a ha]
  refine (carry_int _ _ p (by omega) (by omega) ((congrArg norm (by omega)).trans HP.out) _).mono ?_
  rintro e w' ⟨rfl, rfl⟩
  go_wp2_with fail
  go_at_call 15
  refine (carry_int _ _ q (by omega) (by omega) ((congrArg norm (by omega)).trans HQ.out) _).mono ?_
  rintro e w' ⟨rfl, rfl⟩
  go_wp2_with fail
  go_ret
  have h1 := HR.out
  have h2 := HF.out
  exact ⟨ret_int (h2.trans (by omega)), rfl⟩
set_option maxHeartbeats 400000 in
theorem refEdit_any (k a b : Nat) (hk : k ≤ 65535) (ha : a ≤ 65535) (hb : b ≤ 65535) (W : World) :
    Calls Try.prog 14 #[.int .i64 (k : Int), .int .i64 (a : Int), .int .i64 (b : Int)] W fun e w' => e = .returned (.int .i64 (edit k a b : Nat)) ∧ W = w' := by
  obtain ⟨p, hp⟩ : ∃ p, norm ((65535 - k) + (65535 - a)) = p := ⟨_, rfl⟩
  obtain ⟨q, hq⟩ : ∃ q, norm (p + b) = q := ⟨_, rfl⟩
  have hpl : p ≤ 65535 := by rw [← hp]; exact norm_le _
  have hql : q ≤ 65535 := by rw [← hq]; exact norm_le _
  obtain ⟨r, hr⟩ : ∃ r, edit k a b = r := ⟨_, rfl⟩
  have HR : Hid ((r : Int) = 65535 - (q : Int)) := by show _ = _; rw [← hr]; unfold edit; rw [hp, hq]; omega
  rw [hr]
  have HP := Lib.hid hp
  have HQ := Lib.hid hq
  clear hp hq hr
  go_enter Try.func14, Try.ntmps14
  go_wp2_with fail
  go_at_call 17
  refine (two_int _ _ p (by omega) (by omega) ((congrArg norm (by omega)).trans HP.out) _).mono ?_
  rintro e w' ⟨rfl, rfl⟩
  go_wp2_with fail
  go_at_call 17
  refine (two_int _ _ q (by omega) (by omega) ((congrArg norm (by omega)).trans HQ.out) _).mono ?_
  rintro e w' ⟨rfl, rfl⟩
  go_wp2_with fail
  go_ret
  exact ⟨ret_int HR.out.symm, rfl⟩

end Sm
end Go.Proofs.Ytlbhfendocepiaa
