/- Plain mathematics of the flow's word: three numbers in one. Nothing here speaks of the program. -/
import Derived.Test.YtdjbiaifblmckaaDoorFldM
namespace FloM
open FldM

/-- The word of a time c, a number of changes k and a state v. -/
def gN (c k v : Nat) : Nat := c + k * 1099511627776 + v * 1152921504606846976
def gI (c k v : Int) : Int := c + k * 1099511627776 + v * 1152921504606846976
/-- Numbers that fit. -/
structure Fit (c k v : Int) : Prop where
  c0 : 0 ≤ c
  c1 : c < 1099511627776
  k0 : 0 ≤ k
  k1 : k < 1048576
  v0 : 0 ≤ v
  v1 : v < 16
theorem Fit.of (c k v : Int) (h : 0 ≤ c ∧ c < 1099511627776 ∧ 0 ≤ k ∧ k < 1048576 ∧ 0 ≤ v ∧ v < 16) : Fit c k v := ⟨h.1, h.2.1, h.2.2.1, h.2.2.2.1, h.2.2.2.2.1, h.2.2.2.2.2⟩
theorem gI_lo {c k v : Int} (h : Fit c k v) : 0 ≤ gI c k v := by
  obtain ⟨_, _, _, _, _, _⟩ := h; unfold gI; omega
theorem gI_hi {c k v : Int} (h : Fit c k v) : gI c k v < 18446744073709551616 := by
  obtain ⟨_, _, _, _, _, _⟩ := h; unfold gI; omega
theorem gI_nat {c k v : Int} (h : Fit c k v) : gI c k v = (gN c.toNat k.toNat v.toNat : Int) := by
  obtain ⟨_, _, _, _, _, _⟩ := h; unfold gI gN; omega
theorem gI_inj {c k v c' k' v' : Int} (h : Fit c k v) (h' : Fit c' k' v') (e : gI c k v = gI c' k' v') : c = c' ∧ k = k' ∧ v = v' := by
  obtain ⟨_, _, _, _, _, _⟩ := h; obtain ⟨_, _, _, _, _, _⟩ := h'; unfold gI at e; omega
/-- Every word is the word of a flow. -/
theorem word_is (w : Int) (h0 : 0 ≤ w) (h1 : w < 18446744073709551616) : ∃ c k v, Fit c k v ∧ w = gI c k v :=
  ⟨w % 1099511627776, w / 1099511627776 % 1048576, w / 1152921504606846976, ⟨by omega, by omega, by omega, by omega, by omega, by omega⟩, by unfold gI; omega⟩
theorem get_c {c k v : Int} (h : Fit c k v) : ((getN (gI c k v).toNat (0 : Int).toNat (40 : Int).toNat : Nat) : Int) = c := by
  obtain ⟨_, _, _, _, _, _⟩ := h; unfold gI getN
  show (((c + k * 1099511627776 + v * 1152921504606846976).toNat / 1 % 1099511627776 : Nat) : Int) = c
  omega
theorem get_k {c k v : Int} (h : Fit c k v) : ((getN (gI c k v).toNat (40 : Int).toNat (20 : Int).toNat : Nat) : Int) = k := by
  obtain ⟨_, _, _, _, _, _⟩ := h; unfold gI getN
  show (((c + k * 1099511627776 + v * 1152921504606846976).toNat / 1099511627776 % 1048576 : Nat) : Int) = k
  omega
theorem get_v {c k v : Int} (h : Fit c k v) : ((getN (gI c k v).toNat (60 : Int).toNat (4 : Int).toNat : Nat) : Int) = v := by
  obtain ⟨_, _, _, _, _, _⟩ := h; unfold gI getN
  show (((c + k * 1099511627776 + v * 1152921504606846976).toNat / 1152921504606846976 % 16 : Nat) : Int) = v
  omega
theorem put_c {c k v n : Int} (h : Fit c k v) (h0 : 0 ≤ n) (h1 : n < 1099511627776) : ((putN (gI c k v).toNat (0 : Int).toNat (40 : Int).toNat n.toNat : Nat) : Int) = gI n k v := by
  obtain ⟨_, _, _, _, _, _⟩ := h; unfold gI putN
  show (((c + k * 1099511627776 + v * 1152921504606846976).toNat % 1 + n.toNat % 1099511627776 * 1 + (c + k * 1099511627776 + v * 1152921504606846976).toNat / 1099511627776 * 1099511627776 : Nat) : Int) = _
  omega
theorem put_k {c k v n : Int} (h : Fit c k v) (h0 : 0 ≤ n) (h1 : n < 1048576) : ((putN (gI c k v).toNat (40 : Int).toNat (20 : Int).toNat n.toNat : Nat) : Int) = gI c n v := by
  obtain ⟨_, _, _, _, _, _⟩ := h; unfold gI putN
  show (((c + k * 1099511627776 + v * 1152921504606846976).toNat % 1099511627776 + n.toNat % 1048576 * 1099511627776 + (c + k * 1099511627776 + v * 1152921504606846976).toNat / 1152921504606846976 * 1152921504606846976 : Nat) : Int) = _
  omega
theorem put_v {c k v n : Int} (h : Fit c k v) (h0 : 0 ≤ n) : ((putN (gI c k v).toNat (60 : Int).toNat (4 : Int).toNat n.toNat : Nat) : Int) = gI c k (n % 16) := by
  obtain ⟨_, _, _, _, _, _⟩ := h; unfold gI putN
  show (((c + k * 1099511627776 + v * 1152921504606846976).toNat % 1152921504606846976 + n.toNat % 16 * 1152921504606846976 + (c + k * 1099511627776 + v * 1152921504606846976).toNat / 18446744073709551616 * 18446744073709551616 : Nat) : Int) = _
  omega
end FloM
