/- The walk of SumChanges. -/
import Derived.Test.YtlbhfendocepiaaSumD
import Derived.IntWalk
import Derived.Deep.QuietTactic
set_option linter.unusedVariables false
namespace Go.Proofs.Ytlbhfendocepiaa
open Go.ChangeShapes Go.WideShapes Go.ChangeAt Go.RowKit Go.Mtl
namespace Sm
open SumM (norm add upto norm_big norm_small add_le upto_zero upto_le upto_step upto_word upto_last upto_done norm_le lay lay_len turn turn_len zero_full turn_not two_pow_lt8 edit_fits)

theorem below_drewN {B : Nat} {a w : World} (h : Below B a w) (n : Nat) : Below B a (w.drewN n) := ⟨h.os, h.tape, h.output, h.size, h.block⟩
theorem wrap64_is (n : Int) : wrap64 n = (n + 9223372036854775808) % 18446744073709551616 - 9223372036854775808 := by unfold wrap64; rfl
theorem wrap64_small (F : Nat) (h : F ≤ 65535) : wrap64 (F : Int) = (F : Int) := by rw [wrap64_is]; omega
theorem ret_bool {a : Bool} (h : a = true) : Ending.returned (.bool a) = .returned (.bool true) := by rw [h]
theorem or_word (x y : Nat) (hx : x < 256) (hy : y < 256) : bits .or .u16 ((x : Int) * 256) (y : Int) = ((x * 256 + y : Nat) : Int) := by
  rw [show (x : Int) * 256 = ((x * 256 : Nat) : Int) by omega, u16_or_nat _ _ (by omega) (by omega), nat_join 8 _ _ (by omega) (by omega)]

set_option maxHeartbeats 1000000 in
theorem sumChanges_big (a0 : Option Addr) (n0 c0 : Nat) (m : Nat) (bs : List UInt8) (t b : Nat) (w : World) (hm2 : 2 ≤ m) (hm3 : m ≤ 3000) (hmc : m ≤ c0) (hc : c0 ≤ 9223372036854775807) (hsh : ∀ W, Calls Try.prog 10 #[.slice a0 n0 c0] W fun e w' => e = .returned (.slice a0 m c0) ∧ W = w')
    (hb : Bts w w.heap.size a0 m bs) (ht : t ≤ 65535) (hbt : b ≤ 65535) :
    Calls Try.prog 6 #[.slice a0 n0 c0, .int .u16 (t : Int), .int .u16 (b : Int)] w fun e w' => e = .returned (.bool true) ∧ Below w.heap.size w w' := by
  obtain ⟨i0, hi0, hz0, hz1, hz2⟩ := info_parts u8_info
  have H0 := Lib.hid hsh
  have HB := Lib.hid hb
  obtain ⟨q, hq, hq2⟩ : ∃ q : Nat, (t : Int) % ((m : Int) / 2) = (q : Int) ∧ q * 2 + 1 < m := by
    have hp : 0 < m / 2 := by omega
    have := Nat.mod_lt t hp
    exact ⟨t % (m / 2), by simp, by omega⟩
  clear hsh hb
  go_enter Try.func6, Try.ntmps6
  go_wp2_with (first
    | (go_at_call 10; refine (H0.out _).mono ?_; rintro e w' ⟨rfl, rfl⟩)
    | (at_builtin; refine wpList_append_new rfl (.tmp 11) (.tmp 13) _ rfl 5 i0 Try.underlying23 hi0 hz0 hz1 hz2 rfl _ a0 m c0 bs rfl HB.out (Nat.le_refl _) (by omega) ?_
       intro A1 c1 w1 hown hbel hcc
       obtain ⟨g, rfl, hown1, hg⟩ := own_at hown (by omega)
       have HO1 := Lib.hid hown1
       clear hown hown1))
  go_at_call 12
  have hl : bs.length = m := HB.out.len
  refine (of_any _ m c1 _ w1 _ (own_bts HO1.out) (by omega) (by omega)).mono ?_
  rintro e w' ⟨rfl, rfl⟩
  have HE := Lib.hid (edit_fits bs (q * 2) b (by omega) (by omega) hbt)
  have hal := add_le 0 bs
  obtain ⟨k, hk, hkl⟩ : ∃ k, k = 65535 - add 0 bs ∧ k ≤ 65535 := ⟨_, rfl, by omega⟩
  have HK : Hid (k = 65535 - add 0 bs) := hk
  rw [← hk]
  clear hk
  have hv0 := own_cell HO1.out (q * 2) (by omega)
  have hv1 := own_cell HO1.out (q * 2 + 1) (by omega)
  have hy0 := byt_lt bs (q * 2)
  have hy1 := byt_lt bs (q * 2 + 1)
  go_wp2_with fail
  have e1 : IntKind.i64.wrap ((q : Int) * 2 + 1) = (q : Int) * 2 + 1 := IntWalk.i64_in _ (by omega)
  have e2 : 0 ≤ (q : Int) * 2 + 1 := by omega
  have e3 : ((q : Int) * 2 + 1).toNat = q * 2 + 1 := by omega
  have e4 : 0 ≤ (q : Int) * 2 := by omega
  have e5 : ((q : Int) * 2).toNat = q * 2 := by omega
  have HW := Lib.hid (or_word _ _ hy0 hy1)
  have hwl : byt bs (q * 2) * 256 + byt bs (q * 2 + 1) ≤ 65535 := by omega
  obtain ⟨E, hE⟩ : ∃ E, edit k (byt bs (q * 2) * 256 + byt bs (q * 2 + 1)) b = E := ⟨_, rfl⟩
  have hEl : E ≤ 65535 := by rw [← hE]; exact edit_le _ _ _
  have HC := Lib.hid (fun W => edit_any k (byt bs (q * 2) * 256 + byt bs (q * 2 + 1)) b hkl hwl hbt W)
  have HM : Hid ((65535 - E) % 65535 = add 0 (lay bs (q * 2) b) % 65535) := by
    have h1 := HE.out
    have h2 := HK.out
    subst h2
    show _ = _
    rw [← h1, ← hE]
    unfold edit
    have h3 := norm_le (norm (65535 - (65535 - add 0 bs) + (65535 - (byt bs (q * 2) * 256 + byt bs (q * 2 + 1)))) + b)
    rw [show 65535 - (65535 - norm (norm (65535 - (65535 - add 0 bs) + (65535 - (byt bs (q * 2) * 256 + byt bs (q * 2 + 1)))) + b)) = norm (norm (65535 - (65535 - add 0 bs) + (65535 - (byt bs (q * 2) * 256 + byt bs (q * 2 + 1)))) + b) by omega]
  have HEE := Lib.hid hE
  clear hE
  go_quiet ((go_at_call 13; rw [HW.out]; exact Calls.quiet_of_same ((HC.out _).mono fun _ _ ⟨he, hh⟩ => ⟨he, hh.symm⟩)))
  rw [HEE.out]
  clear e1 e2 e3 e4 e5 HW HC HE HK HEE
  have hf0 := HO1.out.frozenAt (q * 2)
  have hf1 := HO1.out.frozenAt (q * 2 + 1)
  go_wp2_with fail
  go_at_call 8
  have HO2 := own_lay (w := w1.drewN nq) (show OwnAt (w1.drewN nq) w.heap.size g m c1 bs from HO1.out) (q * 2) b hbt _ _ rfl rfl
  have hbel2 := ((below_drewN hbel nq).setCell (p := ⟨g, q * 2, none⟩) hg (.int .u8 ((b : Int) / 256))).setCell (p := ⟨g, q * 2 + 1, none⟩) hg (.int .u8 ((b : Int) % 256))
  clear hf0 hf1 hv0 hv1 hbel HO1
  generalize ((w1.drewN nq).setCell ⟨g, q * 2, none⟩ (.int .u8 ((b : Int) / 256))).setCell ⟨g, q * 2 + 1, none⟩ (.int .u8 ((b : Int) % 256)) = w2 at HO2 hbel2 ⊢
  refine (awake_any _).mono ?_
  rintro e w5 ⟨rfl, hba⟩
  have HO5 := own_below HO2 hba
  have C5 := add0_any _ m c1 _ w5 _ (own_bts HO5) (by omega) (by omega)
  have hr := add_le 0 (lay bs (q * 2) b)
  have hM := HM.out
  generalize add 0 (lay bs (q * 2) b) = r at C5 hr hM
  have H5 := Lib.hid C5
  obtain ⟨v, hv⟩ : ∃ v, r % 65535 = v := ⟨_, rfl⟩
  have e1 : (r : Int) % 65535 = (v : Int) := by omega
  have e3 := not16 E hEl
  have hFl : 65535 - E ≤ 65535 := by omega
  generalize 65535 - E = F at e3 hM hFl
  have HF : Hid (((wrap64 (F : Int)).tmod 65535 == (v : Int)) = true) := by
    show _ = _
    rw [wrap64_small F hFl, Int.tmod_eq_emod_of_nonneg (by omega)]
    have e2 : (F : Int) % 65535 = (v : Int) := by omega
    rw [e2]; simp
  clear C5 HO2 HO5 HM hM hv
  go_wp2_with (go_at_call 9; refine H5.out.mono ?_; rintro e w' ⟨rfl, rfl⟩)
  go_ret
  exact ⟨ret_bool HF.out, hbel2.trans (hba.mono hbel2.size)⟩

set_option maxHeartbeats 1000000 in
theorem sumChanges_small (a0 : Option Addr) (n0 c0 : Nat) (m : Nat) (bs : List UInt8) (t b : Nat) (w : World) (hm2 : m < 2) (hmc : m ≤ c0) (hc : c0 ≤ 9223372036854775807) (hsh : ∀ W, Calls Try.prog 10 #[.slice a0 n0 c0] W fun e w' => e = .returned (.slice a0 m c0) ∧ W = w')
    (hb : Bts w w.heap.size a0 m bs) (ht : t ≤ 65535) (hbt : b ≤ 65535) :
    Calls Try.prog 6 #[.slice a0 n0 c0, .int .u16 (t : Int), .int .u16 (b : Int)] w fun e w' => e = .returned (.bool true) ∧ Below w.heap.size w w' := by
  obtain ⟨i0, hi0, hz0, hz1, hz2⟩ := info_parts u8_info
  have H0 := Lib.hid hsh
  have HB := Lib.hid hb
  clear hsh hb
  go_enter Try.func6, Try.ntmps6
  go_wp2_with (first
    | (go_at_call 10; refine (H0.out _).mono ?_; rintro e w' ⟨rfl, rfl⟩)
    | (go_at_call 8; refine (awake_any _).mono ?_; rintro e w' ⟨rfl, hba⟩)
    | (at_builtin; refine wpList_append_new rfl (.tmp 11) (.tmp 13) _ rfl 5 i0 Try.underlying23 hi0 hz0 hz1 hz2 rfl _ a0 m c0 bs rfl HB.out (Nat.le_refl _) (by omega) ?_
       intro A1 c1 w1 hown hbel hcc
       clear hown))
  go_ret
  exact ⟨rfl, hbel.trans (hba.mono hbel.size)⟩

theorem sumChanges_walk (a0 : Option Addr) (n0 c0 : Nat) (b0 : List UInt8) (a1 a2 : Int) (w : World) (w0 : Bts w w.heap.size a0 n0 b0) (hc0 : n0 ≤ c0) (hm0 : c0 ≤ maxLen) (w1 : 0 ≤ a1 ∧ a1 ≤ 65535) (w2 : 0 ≤ a2 ∧ a2 ≤ 65535) :
    Calls Try.prog 6 #[.slice a0 n0 c0, .int .u16 a1, .int .u16 a2] w fun e w' => e = .returned (.bool true) ∧ Below w.heap.size w w' := by
  unfold maxLen at hm0
  obtain ⟨t, rfl⟩ := Int.eq_ofNat_of_zero_le w1.1
  obtain ⟨b, rfl⟩ := Int.eq_ofNat_of_zero_le w2.1
  have hb := w0.take 3000
  have C0 := fun W => short_any a0 n0 c0 hc0 (by omega) W
  by_cases h : min n0 3000 < 2
  · exact sumChanges_small a0 n0 c0 _ _ t b w h (by omega) (by omega) C0 hb (by omega) (by omega)
  · exact sumChanges_big a0 n0 c0 _ _ t b w (by omega) (by omega) (by omega) (by omega) C0 hb (by omega) (by omega)

end Sm
end Go.Proofs.Ytlbhfendocepiaa
