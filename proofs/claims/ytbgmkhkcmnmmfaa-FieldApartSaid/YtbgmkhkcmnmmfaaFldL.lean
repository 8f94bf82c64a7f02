/- The walks of the laws of layer 1: each returns true and changes nothing that was there. -/
import Derived.Test.YtbgmkhkcmnmmfaaFldC
import Derived.Deep.RegionHeldLaw
set_option linter.unusedVariables false
namespace Go.Proofs.Ytbgmkhkcmnmmfaa
open Go.ChangeShapes Go.WideShapes Go.ChangeAt Go.RowKit Go.Mtl
namespace Fld
open FldM

theorem below_drew {B : Nat} {a w : World} (h : Below B a w) (n : Nat) : Below B a (w.drewN n) := ⟨h.os, h.tape, h.output, h.size, h.block⟩

theorem fieldSigns_walk (a0 : Int) (a1 : Int) (w : World) (w0 : 0 ≤ a0 ∧ a0 ≤ 18446744073709551615) (w1 : -9223372036854775808 ≤ a1 ∧ a1 ≤ 9223372036854775807) :
    Calls Try.prog 4 #[.int .u64 a0, .int .i64 a1] w fun e w' => e = .returned (.bool true) ∧ Below w.heap.size w w' := by
  have wb : a0 < 18446744073709551616 := by omega
  by_cases h : 1 ≤ a1 ∧ a1 ≤ 64
  · go_enter Try.func4, Try.ntmps4
    go_wp2_with (first
      | (go_at_call 8; refine (awake_any _).mono ?_; rintro e w' ⟨rfl, hb⟩)
      | (go_at_call 13; refine (sign_yes _ _ w0.1 wb h.1 h.2 _).mono ?_; rintro e w' ⟨rfl, rfl⟩)
      | (go_at_call 14; refine (refSign_yes _ _ w0.1 wb h.1 h.2 _).mono ?_; rintro e w' ⟨rfl, rfl⟩))
    go_ret
    exact ⟨rfl, hb⟩
  · go_enter Try.func4, Try.ntmps4
    go_wp2_with (first
      | (go_at_call 8; refine (awake_any _).mono ?_; rintro e w' ⟨rfl, hb⟩)
      | (go_at_call 13; refine (sign_no _ _ h _).mono ?_; rintro e w' ⟨rfl, rfl⟩)
      | (go_at_call 14; refine (refSign_no _ _ h _).mono ?_; rintro e w' ⟨rfl, rfl⟩))
    go_ret
    exact ⟨rfl, hb⟩

theorem fieldGets_walk (a0 a1 a2 a3 : Int) (w : World) (w0 : 0 ≤ a0 ∧ a0 ≤ 18446744073709551615) (w1 : -9223372036854775808 ≤ a1 ∧ a1 ≤ 9223372036854775807) (w2 : -9223372036854775808 ≤ a2 ∧ a2 ≤ 9223372036854775807) (w3 : 0 ≤ a3 ∧ a3 ≤ 18446744073709551615) :
    Calls Try.prog 3 #[.int .u64 a0, .int .i64 a1, .int .i64 a2, .int .u64 a3] w fun e w' => e = .returned (.bool true) ∧ Below w.heap.size w w' := by
  have wb : a0 < 18446744073709551616 := by omega
  have wb3 : a3 < 18446744073709551616 := by omega
  by_cases h : vld a1 a2
  · have HV := Lib.hid h
    clear h
    go_enter Try.func3, Try.ntmps3
    go_wp2_with (first
      | (go_at_call 8; refine (awake_any _).mono ?_; rintro e w' ⟨rfl, hb⟩)
      | (go_at_call 9; refine (get_yes _ _ _ w0.1 wb HV.out.1 HV.out.2.1 HV.out.2.2.2 _).mono ?_; rintro e w' ⟨rfl, n1, rfl⟩)
      | (go_at_call 11; refine (put_yes _ _ _ _ w0.1 wb w3.1 wb3 HV.out.1 HV.out.2.1 HV.out.2.2.2 _).mono ?_; rintro e w' ⟨rfl, n2, rfl⟩)
      | (go_at_call 10; refine (refGet_yes _ _ _ w0.1 wb HV.out.1 HV.out.2.1 HV.out.2.2.2 _).mono ?_; rintro e w' ⟨rfl, rfl⟩)
      | (go_at_call 12; refine (refPut_yes _ _ _ _ w0.1 wb w3.1 wb3 HV.out.1 HV.out.2.1 HV.out.2.2.2 _).mono ?_; rintro e w' ⟨rfl, rfl⟩))
    go_ret
    exact ⟨rfl, below_drew hb _⟩
  · go_enter Try.func3, Try.ntmps3
    go_wp2_with (first
      | (go_at_call 8; refine (awake_any _).mono ?_; rintro e w' ⟨rfl, hb⟩)
      | (go_at_call 9; refine (get_no _ _ _ h _).mono ?_; rintro e w' ⟨rfl, rfl⟩)
      | (go_at_call 11; refine (put_no _ _ _ _ h _).mono ?_; rintro e w' ⟨rfl, rfl⟩)
      | (go_at_call 10; refine (refGet_no _ _ _ h _).mono ?_; rintro e w' ⟨rfl, rfl⟩)
      | (go_at_call 12; refine (refPut_no _ _ _ _ h _).mono ?_; rintro e w' ⟨rfl, rfl⟩))
    go_ret
    exact ⟨rfl, hb⟩

/-! ### Num and Cut, whatever is asked -/
instance (l a s : Int) : Decidable (hld l a s) := by unfold hld; infer_instance
/-- Num's answer: a number and whether there is one. -/
def numR (bs : List UInt8) (a s : Int) : Int × Bool := if hld bs.length a s then (numI bs a.toNat s.toNat, true) else (0, false)

theorem num_any (A : Option Addr) (n c : Nat) (bs : List UInt8) (a s : Int) (W : World) (B : Nat) (hb : Bts W B A n bs) (hc : n ≤ c) (hm : c ≤ 9223372036854775807) :
    Calls Try.prog 15 #[.slice A n c, .int .i64 a, .int .i64 s] W fun e w' => e = .returned (.tuple #[.int .u64 (numR bs a s).1, .bool (numR bs a s).2]) ∧ W = w' := by
  have hl := hb.len
  unfold numR
  by_cases h : hld bs.length a s
  · rw [if_pos h]
    rw [hl] at h
    obtain ⟨h0, h1, h2, h3⟩ := h
    obtain ⟨a, rfl⟩ := Int.eq_ofNat_of_zero_le h0
    obtain ⟨s, rfl⟩ := Int.eq_ofNat_of_zero_le (show 0 ≤ s by omega)
    obtain ⟨b, off, rfl, _, hcell⟩ := hb.at_ (by omega)
    simp only [Int.toNat_natCast]
    exact num_yes b off n c bs a s hl hc hm (by omega) (by omega) (by omega) W hcell
  · rw [if_neg h]
    rw [hl] at h
    exact num_no A n c a s (by omega) h W

theorem refNum_any (A : Option Addr) (n c : Nat) (bs : List UInt8) (a s : Int) (W : World) (B : Nat) (hb : Bts W B A n bs) (hc : n ≤ c) (hm : c ≤ 9223372036854775807) :
    Calls Try.prog 16 #[.slice A n c, .int .i64 a, .int .i64 s] W fun e w' => e = .returned (.tuple #[.int .u64 (numR bs a s).1, .bool (numR bs a s).2]) ∧ W = w' := by
  have hl := hb.len
  unfold numR
  by_cases h : hld bs.length a s
  · rw [if_pos h]
    rw [hl] at h
    obtain ⟨h0, h1, h2, h3⟩ := h
    obtain ⟨a, rfl⟩ := Int.eq_ofNat_of_zero_le h0
    obtain ⟨s, rfl⟩ := Int.eq_ofNat_of_zero_le (show 0 ≤ s by omega)
    obtain ⟨b, off, rfl, _, hcell⟩ := hb.at_ (by omega)
    simp only [Int.toNat_natCast]
    exact refNum_yes b off n c bs a s hl hc hm (by omega) (by omega) (by omega) W hcell
  · rw [if_neg h]
    rw [hl] at h
    exact refNum_no A n c a s (by omega) h W

/-- Cut's answer. -/
def cutR (v s : Int) : List UInt8 := if 1 ≤ s ∧ s ≤ 8 then cutN v.toNat s.toNat else []
theorem cut_any (v s : Int) (hv0 : 0 ≤ v) (hv : v < 18446744073709551616) (W : World) : Calls Try.prog 17 #[.int .u64 v, .int .i64 s] W (MadeB W (cutR v s)) := by
  unfold cutR
  by_cases h : 1 ≤ s ∧ s ≤ 8
  · rw [if_pos h]
    obtain ⟨s, rfl⟩ := Int.eq_ofNat_of_zero_le (show 0 ≤ s by omega)
    rw [Int.toNat_natCast]
    exact cut_yes v s hv0 hv (by omega) (by omega) W
  · rw [if_neg h]
    exact (cut_no v s h W).mono fun e w' ⟨he, hw⟩ => by subst hw; exact ⟨_, _, _, he, Bts.empty _ _ _, ⟨Nat.le_refl _, Nat.zero_le _⟩, Below.refl _ _⟩
theorem refCut_any (v s : Int) (hv0 : 0 ≤ v) (hv : v < 18446744073709551616) (W : World) : Calls Try.prog 18 #[.int .u64 v, .int .i64 s] W (MadeB W (cutR v s)) := by
  unfold cutR
  by_cases h : 1 ≤ s ∧ s ≤ 8
  · rw [if_pos h]
    obtain ⟨s, rfl⟩ := Int.eq_ofNat_of_zero_le (show 0 ≤ s by omega)
    rw [Int.toNat_natCast]
    exact refCut_yes v s hv0 hv (by omega) (by omega) W
  · rw [if_neg h]
    exact refCut_no v s h W

set_option maxHeartbeats 1000000 in
theorem fieldNums_walk (a0 : Option Addr) (n0 c0 : Nat) (b0 : List UInt8) (a1 a2 a3 : Int) (w : World) (w0 : Bts w w.heap.size a0 n0 b0) (hc0 : n0 ≤ c0) (hm0 : c0 ≤ maxLen) (w1 : -9223372036854775808 ≤ a1 ∧ a1 ≤ 9223372036854775807)
    (w2 : -9223372036854775808 ≤ a2 ∧ a2 ≤ 9223372036854775807) (w3 : 0 ≤ a3 ∧ a3 ≤ 18446744073709551615) :
    Calls Try.prog 5 #[.slice a0 n0 c0, .int .i64 a1, .int .i64 a2, .int .u64 a3] w fun e w' => e = .returned (.bool true) ∧ Below w.heap.size w w' := by
  have wb3 : a3 < 18446744073709551616 := by omega
  have hm : c0 ≤ 9223372036854775807 := by unfold maxLen at hm0; omega
  obtain ⟨x, y, hxy⟩ : ∃ x y, numR b0 a1 a2 = (x, y) := ⟨_, _, rfl⟩
  have N1 := num_any _ _ _ _ a1 a2 w _ w0 hc0 hm
  have N2 := refNum_any _ _ _ _ a1 a2 w _ w0 hc0 hm
  rw [hxy] at N1 N2
  have H1 := Lib.hid N1
  have H2 := Lib.hid N2
  clear w0 hm0 hxy N1 N2
  go_enter Try.func5, Try.ntmps5
  go_wp2_with (first
      | (go_at_call 15; refine H1.out.mono ?_; rintro e w' ⟨rfl, rfl⟩)
      | (go_at_call 16; refine H2.out.mono ?_; rintro e w' ⟨rfl, rfl⟩))
  go_region_held_law (fun _ => True) (first | trivial) (first
      | (go_at_call 8; refine (awake_any _).mono ?_; rintro e w1 ⟨rfl, hb1⟩)
      | (go_at_call 17; refine (cut_any _ _ w3.1 wb3 _).mono ?_; rintro e w2 ⟨A2, n2, c2, rfl, hb2, _, hbel2⟩; have hcv2 := text_at (c := c2) hb2 (Below.refl _ _))
      | (go_at_call 18; refine (refCut_any _ _ w3.1 wb3 _).mono ?_; rintro e w3 ⟨A3, n3, c3, rfl, hb3, _, hbel3⟩; have hcv3 := text_at (c := c3) hb3 (Below.refl _ _); have hcv4 := text_at (c := c2) hb2 hbel3))
  all_goals
    go_wp2
    go_ret
    have hb1' : Below w.heap.size w w1 := (below_drew (Below.refl _ _) 1).trans hb1
    exact ⟨rfl, hb1'.trans ((hbel2.trans (hbel3.mono hbel2.size)).mono hb1'.size)⟩


end Fld
end Go.Proofs.Ytbgmkhkcmnmmfaa
