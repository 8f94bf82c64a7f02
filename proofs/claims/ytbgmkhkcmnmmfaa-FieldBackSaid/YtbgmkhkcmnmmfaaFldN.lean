/- The walks of FieldApart and FieldBack. -/
import Derived.Test.YtbgmkhkcmnmmfaaFldL
set_option linter.unusedVariables false
namespace Go.Proofs.Ytbgmkhkcmnmmfaa
open Go.ChangeShapes Go.WideShapes Go.ChangeAt Go.RowKit Go.Mtl
namespace Fld
open FldM

theorem width_bd (x y : Int) (hx : 0 ≤ x ∧ x ≤ 255) (hy : 0 ≤ y ∧ y ≤ 255) : 1 ≤ wrap64 (1 + y % (64 - x % 64)) ∧ wrap64 (1 + y % (64 - x % 64)) ≤ 64 - x % 64 := by
  have h1 : 0 ≤ y % (64 - x % 64) := Int.emod_nonneg _ (by omega)
  have h2 : y % (64 - x % 64) < 64 - x % 64 := Int.emod_lt_of_pos _ (by omega)
  rw [wrap64_is]
  omega
theorem putI_bd (w a s v : Int) (hw0 : 0 ≤ w) (hw : w < 18446744073709551616) (h0 : 0 ≤ a) (h1 : 1 ≤ s) (h3 : a ≤ 64 - s) : 0 ≤ putI w a s v ∧ putI w a s v < 18446744073709551616 := by
  have := putN_lt w.toNat a.toNat s.toNat v.toNat (by omega) (by omega)
  unfold putI; omega
theorem below_of_drew {w w' : World} {n : Nat} (h : Below (w.drewN n).heap.size (w.drewN n) w') : Below w.heap.size w w' := ⟨h.os, h.tape, h.output, h.size, h.block⟩
theorem get_put_samei (w a s v : Int) : getI (putI w a s v) a s = getI v 0 s := by
  unfold getI putI; rw [Int.toNat_natCast, get_put_same]; rfl
theorem get_put_otheri (w a s v b t : Int) (h0 : 0 ≤ a) (h1 : 1 ≤ s) (h2 : 0 ≤ b) (h3 : 1 ≤ t) (h : a + s ≤ b ∨ b + t ≤ a) : getI (putI w a s v) b t = getI w b t := by
  unfold getI putI; rw [Int.toNat_natCast, get_put_other _ _ _ _ _ _ (by omega)]
theorem put_puti (w a s v : Int) (hw0 : 0 ≤ w) : putI (putI w a s v) a s (getI w a s) = w := by
  unfold getI putI; rw [Int.toNat_natCast, Int.toNat_natCast, put_put]; omega

set_option maxHeartbeats 1000000 in
theorem fieldApart_walk (a0 a1 a2 a3 a4 a5 : Int) (w : World) (w0 : 0 ≤ a0 ∧ a0 ≤ 18446744073709551615) (w1 : 0 ≤ a1 ∧ a1 ≤ 18446744073709551615) (w2 : 0 ≤ a2 ∧ a2 ≤ 255) (w3 : 0 ≤ a3 ∧ a3 ≤ 255) (w4 : 0 ≤ a4 ∧ a4 ≤ 255) (w5 : 0 ≤ a5 ∧ a5 ≤ 255) :
    Calls Try.prog 6 #[.int .u64 a0, .int .u64 a1, .int .u8 a2, .int .u8 a3, .int .u8 a4, .int .u8 a5] w fun e w' => e = .returned (.bool true) ∧ Below w.heap.size w w' := by
  have wb : a0 < 18446744073709551616 := by omega
  have wb1 : a1 < 18446744073709551616 := by omega
  go_enter Try.func6, Try.ntmps6
  go_wp2
  go_quiet (fail)
  go_wp2
  go_quiet (fail)
  go_wp2_with fail
  have A1 := width_bd a2 a3 w2 w3
  have A2 := width_bd a4 a5 w4 w5
  have A3 : 0 ≤ a2 % 64 ∧ a2 % 64 ≤ 63 := by omega
  have A4 : 0 ≤ a4 % 64 ∧ a4 % 64 ≤ 63 := by omega
  generalize wrap64 (1 + a3 % (64 - a2 % 64)) = s at A1 ⊢
  generalize wrap64 (1 + a5 % (64 - a4 % 64)) = t at A2 ⊢
  generalize a2 % 64 = a at A1 A3 ⊢
  generalize a4 % 64 = b at A2 A4 ⊢
  have hP := putI_bd a0 a s a1 w0.1 wb A3.1 A1.1 (by omega)
  have hG := getI_bd a0 a s (by omega)
  have e1 := get_put_samei a0 a s a1
  have e2 := put_puti a0 a s a1 w0.1
  by_cases hd : a + s ≤ b
  · have e3 := get_put_otheri a0 a s a1 b t A3.1 A1.1 A4.1 A2.1 (.inl hd)
    go_wp2_with (first
      | (go_at_call 8; refine (awake_any _).mono ?_; rintro e w' ⟨rfl, hb⟩)
      | (go_at_call 9; refine (get_yes _ _ _ (by omega) (by omega) (by omega) (by omega) (by omega) _).mono ?_; rintro e w' ⟨rfl, n1, rfl⟩)
      | (go_at_call 11; refine (put_yes _ _ _ _ (by omega) (by omega) (by omega) (by omega) (by omega) (by omega) (by omega) _).mono ?_; rintro e w' ⟨rfl, n2, rfl⟩))
    go_ret
    exact ⟨rfl, below_drew (below_of_drew hb) _⟩
  · by_cases hd2 : b + t ≤ a
    · have e3 := get_put_otheri a0 a s a1 b t A3.1 A1.1 A4.1 A2.1 (.inr hd2)
      go_wp2_with (first
        | (go_at_call 8; refine (awake_any _).mono ?_; rintro e w' ⟨rfl, hb⟩)
        | (go_at_call 9; refine (get_yes _ _ _ (by omega) (by omega) (by omega) (by omega) (by omega) _).mono ?_; rintro e w' ⟨rfl, n1, rfl⟩)
        | (go_at_call 11; refine (put_yes _ _ _ _ (by omega) (by omega) (by omega) (by omega) (by omega) (by omega) (by omega) _).mono ?_; rintro e w' ⟨rfl, n2, rfl⟩))
      go_ret
      exact ⟨rfl, below_drew (below_of_drew hb) _⟩
    · go_wp2_with (first
        | (go_at_call 8; refine (awake_any _).mono ?_; rintro e w' ⟨rfl, hb⟩)
        | (go_at_call 9; refine (get_yes _ _ _ (by omega) (by omega) (by omega) (by omega) (by omega) _).mono ?_; rintro e w' ⟨rfl, n1, rfl⟩)
        | (go_at_call 11; refine (put_yes _ _ _ _ (by omega) (by omega) (by omega) (by omega) (by omega) (by omega) (by omega) _).mono ?_; rintro e w' ⟨rfl, n2, rfl⟩))
      go_ret
      exact ⟨rfl, below_drew (below_of_drew hb) _⟩

theorem cut_len (v s : Int) (h1 : 1 ≤ s) (h2 : s ≤ 8) : (cutR v s).length = s.toNat := by
  unfold cutR; rw [if_pos ⟨h1, h2⟩, cutN_len]
theorem cut_num (v s : Int) (hv : 0 ≤ v) (h1 : 1 ≤ s) (h2 : s ≤ 8) : numR (cutR v s) 0 s = (getI v 0 (8 * s), true) := by
  unfold numR
  have hl := cut_len v s h1 h2
  rw [if_pos (by unfold hld; rw [hl]; omega)]
  unfold numI cutR getI getN
  rw [if_pos ⟨h1, h2⟩]
  simp only [Int.toNat_zero, List.drop_zero, Nat.pow_zero, Nat.div_one]
  rw [List.take_of_length_le (by rw [cutN_len]; exact Nat.le_refl _), num_cut, show (8 * s).toNat = 8 * s.toNat by omega]

theorem sign_backi (n k : Int) (h1 : 1 ≤ k) (h2 : k ≤ 64) (hl : wrap64 (-2 ^ (k.toNat - 1)) ≤ n) (hh : n ≤ wrap64 (9223372036854775807 / 2 ^ (64 - k).toNat)) :
    signI (IntKind.u64.wrap n) k = n := by
  obtain ⟨e1, e2, e3⟩ := pow_parts k.toNat (by omega) (by omega)
  have hp : 0 < 2 ^ (k.toNat - 1) := Nat.two_pow_pos _
  have hq : 2 ^ (k.toNat - 1) ≤ 2 ^ 63 := Nat.pow_le_pow_right (by decide) (by omega)
  have f1 : ((2 : Int) ^ (k.toNat - 1)) = ((2 ^ (k.toNat - 1) : Nat) : Int) := by simp
  have f2 : (9223372036854775807 : Int) / 2 ^ (64 - k).toNat = ((2 ^ (k.toNat - 1) - 1 : Nat) : Int) := by
    have hr : 0 < 2 ^ (64 - k.toNat) := Nat.two_pow_pos _
    have g : (9223372036854775807 : Nat) / 2 ^ (64 - k.toNat) = 2 ^ (k.toNat - 1) - 1 := by
      rw [Nat.div_eq_iff hr, Nat.sub_mul, e2]
      have : 2 ^ (64 - k.toNat) ≤ 2 ^ 63 := Nat.pow_le_pow_right (by decide) (by omega)
      omega
    rw [show (64 - k).toNat = 64 - k.toNat by omega, ← g]
    simp
  rw [wrap64_is, f1] at hl
  rw [wrap64_is, f2] at hh
  unfold signI
  rw [u64_wrap, sign_back n k.toNat (by omega) (by omega) (by omega) (by omega)]

set_option maxHeartbeats 1000000 in
theorem fieldBack_walk (a0 a1 a2 : Int) (w : World) (w0 : 0 ≤ a0 ∧ a0 ≤ 18446744073709551615) (w1 : 0 ≤ a1 ∧ a1 ≤ 255) (w2 : -9223372036854775808 ≤ a2 ∧ a2 ≤ 9223372036854775807) :
    Calls Try.prog 7 #[.int .u64 a0, .int .u8 a1, .int .i64 a2] w fun e w' => e = .returned (.bool true) ∧ Below w.heap.size w w' := by
  have wb : a0 < 18446744073709551616 := by omega
  go_enter Try.func7, Try.ntmps7
  go_wp2_with fail
  have A1 : 0 ≤ a1 % 8 ∧ a1 % 8 ≤ 7 := by omega
  generalize a1 % 8 = r at A1 ⊢
  have HN := Lib.hid (cut_num a0 (1 + r) w0.1 (by omega) (by omega))
  have HL := Lib.hid (cut_len a0 (1 + r) (by omega) (by omega))
  have HS := Lib.hid (sign_backi a2 (8 * (1 + r)) (by omega) (by omega))
  have hW : 0 ≤ IntKind.u64.wrap a2 ∧ IntKind.u64.wrap a2 < 18446744073709551616 := by rw [u64_wrap]; omega
  go_wp2_with (first
    | (go_at_call 17; refine (cut_any _ _ w0.1 wb _).mono ?_; rintro e w1 ⟨A, n, c, rfl, hb, hnc, hbel⟩
       obtain rfl : n = (1 + r).toNat := by rw [← hb.len, HL.out]
       have hl : (((1 + r).toNat : Nat) : Int) = 1 + r := by omega
       have N1 := num_any _ _ _ _ 0 (1 + r) w1 _ hb hnc.1 hnc.2
       rw [HN.out] at N1
       have H1 := Lib.hid N1
       clear N1 hnc)
    | (go_at_call 15; refine H1.out.mono ?_; rintro e w' ⟨rfl, rfl⟩)
    | (go_at_call 8; refine (awake_any _).mono ?_; rintro e w' ⟨rfl, hba⟩)
    | (go_at_call 9; refine (get_yes _ _ _ (by omega) (by omega) (by omega) (by omega) (by omega) _).mono ?_; rintro e w' ⟨rfl, n1, rfl⟩)
    | (go_at_call 13; refine (sign_yes _ _ hW.1 hW.2 (by omega) (by omega) _).mono ?_; rintro e w' ⟨rfl, rfl⟩; have hbk := HS.out (by assumption) (by assumption)))
  all_goals
    go_ret
    exact ⟨rfl, below_drew (hbel.trans (hba.mono hbel.size)) _⟩

end Fld
end Go.Proofs.Ytbgmkhkcmnmmfaa
