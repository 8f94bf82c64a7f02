/- Contracts of the functions of package field and of its reference that only compute. -/
import Derived.Test.YtcjppfggllbbeaaGreatDoorRows
import Derived.Test.YtcjppfggllbbeaaGreatDoorJ2
import Derived.WalkKit
import Derived.ProofKit
import Derived.OpenShut
import Derived.BigQuiet
import Derived.Lib.Hide
set_option linter.unusedVariables false
namespace Go.Proofs.YtcjppfggllbbeaaGreatDoor
open Go.ChangeShapes Go.WideShapes Go.ChangeAt Go.RowKit
namespace Fld
open FldM

def vld (a s : Int) : Prop := 0 ≤ a ∧ 1 ≤ s ∧ s ≤ 64 ∧ a ≤ 64 - s
/-- Get's answer in a valid field. -/
def getI (w a s : Int) : Int := (getN w.toNat a.toNat s.toNat : Nat)
def putI (w a s v : Int) : Int := (putN w.toNat a.toNat s.toNat v.toNat : Nat)

theorem valid_yes (a s : Int) (h0 : 0 ≤ a) (h1 : 1 ≤ s) (h2 : s ≤ 64) (h3 : a ≤ 64 - s) (w : World) :
    Calls Tryz.prog 139 #[.int .i64 a, .int .i64 s] w fun e w' => e = .returned (.bool true) ∧ w = w' := by
  go_enter Tryz.func139, Tryz.ntmps139
  go_wp2
  go_ret
  exact ⟨rfl, rfl⟩

theorem valid_no (a s : Int) (h : ¬ vld a s) (w : World) :
    Calls Tryz.prog 139 #[.int .i64 a, .int .i64 s] w fun e w' => e = .returned (.bool false) ∧ w = w' := by
  unfold vld at h
  by_cases h0 : 0 ≤ a
  · by_cases h1 : 1 ≤ s
    · by_cases h2 : s ≤ 64
      · have h3 : ¬ a ≤ 64 - s := by omega
        clear h
        go_enter Tryz.func139, Tryz.ntmps139
        go_wp2
        go_ret
        exact ⟨rfl, rfl⟩
      · clear h
        go_enter Tryz.func139, Tryz.ntmps139
        go_wp2
        go_ret
        exact ⟨rfl, rfl⟩
    · clear h
      go_enter Tryz.func139, Tryz.ntmps139
      go_wp2
      go_ret
      exact ⟨rfl, rfl⟩
  · clear h
    go_enter Tryz.func139, Tryz.ntmps139
    go_wp2
    go_ret
    exact ⟨rfl, rfl⟩

def onesI (s : Int) : Int := (2 ^ s.toNat - 1 : Nat)
theorem onesI_bd (s : Int) (h1 : 1 ≤ s) (h2 : s ≤ 64) : 1 ≤ onesI s ∧ onesI s < 18446744073709551616 := by
  unfold onesI
  have hp : 0 < 2 ^ s.toNat := Nat.two_pow_pos _
  have h : 2 ^ s.toNat ≤ 2 ^ 64 := Nat.pow_le_pow_right (by decide) (by omega)
  have h' : 2 ^ 1 ≤ 2 ^ s.toNat := Nat.pow_le_pow_right (by decide) (by omega)
  omega
theorem ones_is (s : Int) (h1 : 1 ≤ s) (h2 : s ≤ 64) : (18446744073709551615 : Int) / 2 ^ (64 - s).toNat = onesI s := by
  have := ones_eq s.toNat (by omega) (by omega)
  unfold onesI
  rw [← this, show 64 - s.toNat = (64 - s).toNat by omega]
  simp
theorem ones_any (s : Int) (h1 : 1 ≤ s) (h2 : s ≤ 64) (w : World) :
    Calls Tryz.prog 140 #[.int .i64 s] w fun e w' => e = .returned (.int .u64 (onesI s)) ∧ w = w' := by
  go_enter Tryz.func140, Tryz.ntmps140
  go_wp2
  go_ret
  exact ⟨by rw [← ones_is s h1 h2]; rfl, rfl⟩

theorem and_u64 (x y : Int) (h1 : 0 ≤ x) (h2 : x < 18446744073709551616) (h3 : 0 ≤ y) (h4 : y < 18446744073709551616) : bits .and .u64 x y = ((x.toNat &&& y.toNat : Nat) : Int) := u64_and x y h1 h2 h3 h4
theorem div_pow_bd (w : Int) (n : Nat) (hw0 : 0 ≤ w) (hw : w < 18446744073709551616) : 0 ≤ w / 2 ^ n ∧ w / 2 ^ n < 18446744073709551616 := by
  have hp : (0 : Int) < 2 ^ n := Int.pow_pos (by decide)
  exact ⟨Int.ediv_nonneg hw0 (by omega), Int.lt_of_le_of_lt (Int.ediv_le_self _ hw0) hw⟩
theorem toNat_div_pow (w : Int) (n : Nat) (hw0 : 0 ≤ w) : (w / 2 ^ n).toNat = w.toNat / 2 ^ n := by
  obtain ⟨k, rfl⟩ := Int.eq_ofNat_of_zero_le hw0
  have : ((k : Int) / 2 ^ n) = ((k / 2 ^ n : Nat) : Int) := by simp
  rw [this, Int.toNat_natCast, Int.toNat_natCast]
theorem get_is (w a s : Int) (hw0 : 0 ≤ w) (hw : w < 18446744073709551616) (h1 : 1 ≤ s) (h2 : s ≤ 64) : bits .and .u64 (w / 2 ^ a.toNat) (onesI s) = getI w a s := by
  have ho := onesI_bd s h1 h2
  have hd := div_pow_bd w a.toNat hw0 hw
  rw [u64_and _ _ hd.1 hd.2 (by omega) ho.2, toNat_div_pow _ _ hw0]
  unfold onesI getI
  rw [Int.toNat_natCast, get_code]

theorem get_yes (w a s : Int) (hw0 : 0 ≤ w) (hw : w < 18446744073709551616) (h0 : 0 ≤ a) (h1 : 1 ≤ s) (h3 : a ≤ 64 - s) (W : World) :
    Calls Tryz.prog 103 #[.int .u64 w, .int .i64 a, .int .i64 s] W fun e w' => e = .returned (.int .u64 (getI w a s)) ∧ ∃ n, w' = W.drewN n := by
  have h2 : s ≤ 64 := by omega
  have ho := onesI_bd s h1 h2
  have HF := Lib.hid (get_is w a s hw0 hw h1 h2)
  go_enter Tryz.func103, Tryz.ntmps103
  go_wp2_with (go_at_call 139; refine (valid_yes _ _ h0 h1 h2 h3 _).mono ?_; rintro e w' ⟨rfl, rfl⟩)
  go_quiet ((go_at_call 140; exact Calls.quiet_of_same ((ones_any _ h1 h2 _).mono fun _ _ ⟨he, hh⟩ => ⟨he, hh.symm⟩)))
  go_wp2
  go_ret
  exact ⟨by rw [← HF.out]; rfl, _, rfl⟩

theorem get_no (w a s : Int) (h : ¬ vld a s) (W : World) :
    Calls Tryz.prog 103 #[.int .u64 w, .int .i64 a, .int .i64 s] W fun e w' => e = .returned (.int .u64 0) ∧ W = w' := by
  go_enter Tryz.func103, Tryz.ntmps103
  go_wp2_with (go_at_call 139; refine (valid_no _ _ h _).mono ?_; rintro e w' ⟨rfl, rfl⟩)
  go_ret
  exact ⟨rfl, rfl⟩

theorem put_no (w a s v : Int) (h : ¬ vld a s) (W : World) :
    Calls Tryz.prog 132 #[.int .u64 w, .int .i64 a, .int .i64 s, .int .u64 v] W fun e w' => e = .returned (.int .u64 w) ∧ W = w' := by
  go_enter Tryz.func132, Tryz.ntmps132
  go_wp2_with (go_at_call 139; refine (valid_no _ _ h _).mono ?_; rintro e w' ⟨rfl, rfl⟩)
  go_ret
  exact ⟨rfl, rfl⟩

theorem u64_wrap (n : Int) : IntKind.u64.wrap n = n % 18446744073709551616 := by
  simp [IntKind.wrap, IntKind.bits, IntKind.signed]
theorem toNat_mod (n : Int) (h : 0 ≤ n) : (n % 18446744073709551616).toNat = n.toNat % 2 ^ 64 := by omega

theorem put_is (w a s v : Int) (hw0 : 0 ≤ w) (hw : w < 18446744073709551616) (hv0 : 0 ≤ v) (hv : v < 18446744073709551616) (h0 : 0 ≤ a) (h1 : 1 ≤ s) (h3 : a ≤ 64 - s) :
    bits .or .u64 (bits .andNot .u64 w (IntKind.u64.wrap (onesI s * 2 ^ a.toNat))) (IntKind.u64.wrap (bits .and .u64 v (onesI s) * 2 ^ a.toNat)) = putI w a s v := by
  have h2 : s ≤ 64 := by omega
  have ho := onesI_bd s h1 h2
  rw [and_u64 v _ hv0 hv (by omega) ho.2, u64_wrap, u64_wrap]
  have hp : (0 : Int) < 2 ^ a.toNat := Int.pow_pos (by decide)
  have e1 : (onesI s * 2 ^ a.toNat % 18446744073709551616 : Int) = (((2 ^ s.toNat - 1) * 2 ^ a.toNat % 2 ^ 64 : Nat) : Int) := by
    unfold onesI; simp
  have e2 : (((v.toNat &&& (onesI s).toNat : Nat) : Int) * 2 ^ a.toNat % 18446744073709551616) = (((v.toNat &&& (2 ^ s.toNat - 1)) * 2 ^ a.toNat % 2 ^ 64 : Nat) : Int) := by
    unfold onesI; simp
  rw [e1, e2]
  have l1 : (2 ^ s.toNat - 1) * 2 ^ a.toNat % 2 ^ 64 < 2 ^ 64 := Nat.mod_lt _ (by decide)
  have l2 : (v.toNat &&& (2 ^ s.toNat - 1)) * 2 ^ a.toNat % 2 ^ 64 < 2 ^ 64 := Nat.mod_lt _ (by decide)
  rw [u64_andNot w _ hw0 hw (by omega) (by omega), u64_or _ _ (by omega) (by have := Nat.and_le_left (n := w.toNat) (m := 18446744073709551615 - (((2 ^ s.toNat - 1) * 2 ^ a.toNat % 2 ^ 64 : Nat) : Int).toNat); omega) (by omega) (by omega)]
  unfold putI
  rw [← put_code w.toNat a.toNat s.toNat v.toNat (by omega) (by omega) (by omega)]
  simp only [Int.toNat_natCast]

theorem put_yes (w a s v : Int) (hw0 : 0 ≤ w) (hw : w < 18446744073709551616) (hv0 : 0 ≤ v) (hv : v < 18446744073709551616) (h0 : 0 ≤ a) (h1 : 1 ≤ s) (h3 : a ≤ 64 - s) (W : World) :
    Calls Tryz.prog 132 #[.int .u64 w, .int .i64 a, .int .i64 s, .int .u64 v] W fun e w' => e = .returned (.int .u64 (putI w a s v)) ∧ ∃ n, w' = W.drewN n := by
  have h2 : s ≤ 64 := by omega
  have ho := onesI_bd s h1 h2
  have HF := Lib.hid (put_is w a s v hw0 hw hv0 hv h0 h1 h3)
  go_enter Tryz.func132, Tryz.ntmps132
  go_wp2_with (first | (go_at_call 139; refine (valid_yes _ _ h0 h1 h2 h3 _).mono ?_; rintro e w' ⟨rfl, rfl⟩) | (go_at_call 140; refine (ones_any _ h1 h2 _).mono ?_; rintro e w' ⟨rfl, rfl⟩))
  go_quiet (fail)
  go_wp2
  go_ret
  exact ⟨by rw [← HF.out]; rfl, _, rfl⟩

/-- Sign's answer. -/
def signI (v s : Int) : Int := signN v.toNat s.toNat
theorem wrap64_is (n : Int) : wrap64 n = (n + 9223372036854775808) % 18446744073709551616 - 9223372036854775808 := by unfold wrap64; rfl

theorem sign_is (v s : Int) (hv0 : 0 ≤ v) (h1 : 1 ≤ s) (h2 : s ≤ 64) :
    wrap64 (IntKind.u64.wrap (v * 2 ^ (64 - s).toNat)) / 2 ^ (64 - s).toNat = signI v s := by
  obtain ⟨k, rfl⟩ := Int.eq_ofNat_of_zero_le hv0
  have := sign_shift k s.toNat (by omega) (by omega)
  unfold signI
  rw [Int.toNat_natCast, ← this, wrap64_is, u64_wrap, show (64 - s).toNat = 64 - s.toNat by omega]
  simp

/-! ### The reference -/
/-- The part of the field's number that has been read, from bit k on. -/
def gUp (w a s k : Int) : Int := (getN w.toNat a.toNat s.toNat / 2 ^ k.toNat : Nat)
theorem gUp_top (w a s : Int) : gUp w a s s = 0 := by
  unfold gUp; rw [Nat.div_eq_of_lt (getN_lt _ _ _)]; rfl
theorem gUp_all (w a s : Int) : gUp w a s 0 = getI w a s := by unfold gUp getI; simp
theorem one_bit (w : Int) (n : Nat) (hw0 : 0 ≤ w) (hw : w < 18446744073709551616) : bits .and .u64 (w / 2 ^ n) 1 = ((w.toNat / 2 ^ n % 2 : Nat) : Int) := by
  have hd := div_pow_bd w n hw0 hw
  rw [u64_and _ _ hd.1 hd.2 (by decide) (by decide), toNat_div_pow _ _ hw0]
  have := Nat.and_two_pow_sub_one_eq_mod (w.toNat / 2 ^ n) 1
  rw [show (1 : Int).toNat = 2 ^ 1 - 1 from rfl, this]
theorem gUp_step (w a s k : Int) (hw0 : 0 ≤ w) (hw : w < 18446744073709551616) (h0 : 0 ≤ a) (h1 : 1 ≤ s) (h3 : a ≤ 64 - s) (hk : 0 ≤ k) (hk2 : k ≤ s - 1) :
    IntKind.u64.wrap (IntKind.u64.wrap (gUp w a s (k + 1) * 2) + bits .and .u64 (w / 2 ^ (a + k).toNat) 1) = gUp w a s k := by
  rw [one_bit _ _ hw0 hw, u64_wrap, u64_wrap]
  unfold gUp
  have hb := getN_bit w.toNat a.toNat s.toNat k.toNat (by omega)
  have hs := div_step (getN w.toNat a.toNat s.toNat) k.toNat
  have hl : getN w.toNat a.toNat s.toNat < 2 ^ s.toNat := getN_lt _ _ _
  have hp : 2 ^ s.toNat ≤ 2 ^ 64 := Nat.pow_le_pow_right (by decide) (by omega)
  have hd : getN w.toNat a.toNat s.toNat / 2 ^ k.toNat ≤ getN w.toNat a.toNat s.toNat := Nat.div_le_self _ _
  rw [show (a + k).toNat = a.toNat + k.toNat by omega, ← hb, show (k + 1).toNat = k.toNat + 1 by omega]
  omega

def pUp (w a s v k : Int) : Int := (putN w.toNat a.toNat s.toNat v.toNat / 2 ^ k.toNat : Nat)
theorem pUp_all (w a s v : Int) : pUp w a s v 0 = putI w a s v := by unfold pUp putI; simp
theorem pUp_top (w a s v : Int) (hw0 : 0 ≤ w) (hw : w < 18446744073709551616) (h0 : 0 ≤ a) (h1 : 1 ≤ s) (h3 : a ≤ 64 - s) : pUp w a s v 64 = 0 := by
  unfold pUp; rw [show (64 : Int).toNat = 64 from rfl, Nat.div_eq_of_lt (putN_lt _ _ _ _ (by omega) (by omega))]; rfl
theorem pUp_step (w a s v k : Int) (x : Int) (hw0 : 0 ≤ w) (hw : w < 18446744073709551616) (h0 : 0 ≤ a) (h1 : 1 ≤ s) (h3 : a ≤ 64 - s) (hk : 0 ≤ k)
    (hx : x = ((if a ≤ k ∧ k < a + s then v.toNat / 2 ^ (k.toNat - a.toNat) % 2 else w.toNat / 2 ^ k.toNat % 2 : Nat) : Int)) :
    IntKind.u64.wrap (IntKind.u64.wrap (pUp w a s v (k + 1) * 2) + x) = pUp w a s v k := by
  rw [u64_wrap, u64_wrap]
  have hb := putN_bit w.toNat a.toNat s.toNat v.toNat k.toNat
  have hs := div_step (putN w.toNat a.toNat s.toNat v.toNat) k.toNat
  have hl : putN w.toNat a.toNat s.toNat v.toNat < 2 ^ 64 := putN_lt _ _ _ _ (by omega) (by omega)
  have hd : putN w.toNat a.toNat s.toNat v.toNat / 2 ^ k.toNat ≤ putN w.toNat a.toNat s.toNat v.toNat := Nat.div_le_self _ _
  have hc : (a.toNat ≤ k.toNat ∧ k.toNat < a.toNat + s.toNat) ↔ (a ≤ k ∧ k < a + s) := by omega
  simp only [hc] at hb
  rw [← hb] at hx
  subst hx
  unfold pUp
  rw [show (k + 1).toNat = k.toNat + 1 by omega]
  omega
theorem pUp_in (w a s v k : Int) (hw0 : 0 ≤ w) (hw : w < 18446744073709551616) (hv0 : 0 ≤ v) (hv : v < 18446744073709551616) (h0 : 0 ≤ a) (h1 : 1 ≤ s) (h3 : a ≤ 64 - s) (hk : 0 ≤ k) (h : a ≤ k) (h' : k < a + s) :
    IntKind.u64.wrap (IntKind.u64.wrap (pUp w a s v (k + 1) * 2) + bits .and .u64 (v / 2 ^ (k - a).toNat) 1) = pUp w a s v k :=
  pUp_step w a s v k _ hw0 hw h0 h1 h3 hk (by rw [one_bit _ _ hv0 hv, if_pos ⟨h, h'⟩, show (k - a).toNat = k.toNat - a.toNat by omega])
theorem pUp_out (w a s v k : Int) (hw0 : 0 ≤ w) (hw : w < 18446744073709551616) (h0 : 0 ≤ a) (h1 : 1 ≤ s) (h3 : a ≤ 64 - s) (hk : 0 ≤ k) (h : ¬ (a ≤ k ∧ k < a + s)) :
    IntKind.u64.wrap (IntKind.u64.wrap (pUp w a s v (k + 1) * 2) + bits .and .u64 (w / 2 ^ k.toNat) 1) = pUp w a s v k :=
  pUp_step w a s v k _ hw0 hw h0 h1 h3 hk (by rw [one_bit _ _ hw0 hw, if_neg h])

theorem getI_bd (w a s : Int) (h2 : s ≤ 64) : 0 ≤ getI w a s ∧ getI w a s < 18446744073709551616 := by
  have hl : getN w.toNat a.toNat s.toNat < 2 ^ s.toNat := getN_lt _ _ _
  have hp : 2 ^ s.toNat ≤ 2 ^ 64 := Nat.pow_le_pow_right (by decide) (by omega)
  unfold getI; omega
theorem getI_low (v s : Int) : getI v 0 s = ((v.toNat % 2 ^ s.toNat : Nat) : Int) := by unfold getI getN; simp
theorem high_is (v s : Int) (h1 : 1 ≤ s) : getI v 0 s / 2 ^ (s.toNat - 1) = if v.toNat % 2 ^ s.toNat < 2 ^ (s.toNat - 1) then 0 else 1 := by
  have hx : v.toNat % 2 ^ s.toNat < 2 ^ s.toNat := Nat.mod_lt _ (Nat.two_pow_pos _)
  have := high_bit _ s.toNat (by omega) hx
  rw [getI_low]
  have e : (((v.toNat % 2 ^ s.toNat : Nat) : Int) / 2 ^ (s.toNat - 1)) = ((v.toNat % 2 ^ s.toNat / 2 ^ (s.toNat - 1) : Nat) : Int) := by simp
  rw [e, this]; split <;> rfl

theorem wrap_sub (x q : Int) (h0 : 0 ≤ x) (h1 : x < 9223372036854775808) : wrap64 (wrap64 x - wrap64 q) = (x - (q + 9223372036854775808) % 18446744073709551616 + 9223372036854775808 + 9223372036854775808) % 18446744073709551616 - 9223372036854775808 := by
  rw [wrap64_is x, wrap64_is q, wrap64_is]; omega
theorem sign_code2 (v s : Int) (h1 : 1 ≤ s) (h2 : s < 64) (hlow : ¬ v.toNat % 2 ^ s.toNat < 2 ^ (s.toNat - 1)) : wrap64 (wrap64 (getI v 0 s) - wrap64 (2 ^ s.toNat)) = signI v s := by
  have hs := sign_sub v.toNat s.toNat (by omega) (by omega) hlow
  have hx : v.toNat % 2 ^ s.toNat < 2 ^ s.toNat := Nat.mod_lt _ (Nat.two_pow_pos _)
  have hq : (2 : Nat) ^ s.toNat ≤ 2 ^ 63 := Nat.pow_le_pow_right (by decide) (by omega)
  have e : ((2 : Int) ^ s.toNat) = ((2 ^ s.toNat : Nat) : Int) := by simp
  rw [e, getI_low, wrap_sub _ _ (by omega) (by omega)]
  exact hs

end Fld
end Go.Proofs.YtcjppfggllbbeaaGreatDoor
