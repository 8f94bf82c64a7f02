/- Plain mathematics of layer 11, second part: numbers out of their digits, up to 2^62. Nothing of any program. -/
import Derived.Test.YtaniiofoaaekbaaAdrK
set_option linter.unusedVariables false
set_option linter.unusedSimpArgs false
namespace Go.TxtM
open Go.Lib Go.AdrM

def top : Nat := 4611686018427387904
def okN (l : List UInt8) : Bool := l.all isDig && decide (decDigits (dval 0 l) = l) && decide (dval 0 l ≤ top)
def valN (l : List UInt8) : Nat := if okN l = true then dval 0 l else 0
theorem okN_iff (l : List UInt8) : okN l = true ↔ l.all isDig = true ∧ decDigits (dval 0 l) = l ∧ dval 0 l ≤ top := by
  unfold okN; simp [Bool.and_eq_true, and_assoc]
theorem valN_no {l : List UInt8} (h : okN l = false) : valN l = 0 := by unfold valN; rw [h]; rfl
theorem valN_yes {l : List UInt8} (h : okN l = true) : valN l = dval 0 l := by unfold valN; rw [if_pos h]
theorem okN_no {l : List UInt8} (h : ¬ (l.all isDig = true ∧ decDigits (dval 0 l) = l ∧ dval 0 l ≤ top)) : okN l = false := by
  cases e : okN l with
  | false => rfl
  | true => exact absurd ((okN_iff l).1 e) h
theorem dval_ge : ∀ (r : List UInt8) (a : Nat), a ≤ dval a r := by
  intro r
  induction r with
  | nil => intro a; exact Nat.le_refl _
  | cons c r ih => intro a; exact Nat.le_trans (by omega) (ih (10 * a + (c.toNat - 48)))
theorem dval_take (l : List UInt8) (k : Nat) : dval 0 (l.take k) ≤ dval 0 l := by
  conv => rhs; rw [← List.take_append_drop k l]
  rw [dval_append]
  exact dval_ge _ _
theorem dval_lt : ∀ (l : List UInt8) (a k : Nat), l.all isDig = true → a < 10 ^ k → dval a l < 10 ^ (k + l.length) := by
  intro l
  induction l with
  | nil => intro a k _ h; exact h
  | cons c l ih =>
    intro a k hd h
    rw [List.all_cons, Bool.and_eq_true] at hd
    have hc := hd.1
    unfold isDig at hc
    rw [Bool.and_eq_true, decide_eq_true_iff, decide_eq_true_iff] at hc
    have := ih (10 * a + (c.toNat - 48)) (k + 1) hd.2 (by rw [Nat.pow_succ]; omega)
    show dval (10 * a + (c.toNat - 48)) l < _
    rw [show k + (c :: l).length = k + 1 + l.length by simp; omega]
    exact this
theorem dval_lt19 {l : List UInt8} (hd : l.all isDig = true) (h : l.length ≤ 18) : dval 0 l < 1000000000000000000 := by
  have := dval_lt l 0 0 hd (by decide)
  rw [Nat.zero_add] at this
  have h2 : 10 ^ l.length ≤ 10 ^ 18 := Nat.pow_le_pow_right (by omega) h
  have h3 : (10 : Nat) ^ 18 = 1000000000000000000 := by decide
  omega
theorem dval_snoc (l : List UInt8) (c : UInt8) : dval 0 (l ++ [c]) = 10 * dval 0 l + (c.toNat - 48) := by rw [dval_append]; rfl
theorem dval_at {l : List UInt8} {k : Nat} {c : UInt8} (h : l[k]? = some c) : dval 0 (l.take (k + 1)) = 10 * dval 0 (l.take k) + (c.toNat - 48) := by
  obtain ⟨hlt, he⟩ := (List.getElem?_eq_some_iff.1 h)
  rw [List.take_succ_eq_append_getElem hlt, he, dval_snoc]
theorem all_at {l : List UInt8} {k : Nat} {c : UInt8} (h : l[k]? = some c) (ha : (l.take k).all isDig = true) (hc : 48 ≤ c.toNat ∧ c.toNat ≤ 57) : (l.take (k + 1)).all isDig = true := by
  obtain ⟨hlt, he⟩ := (List.getElem?_eq_some_iff.1 h)
  rw [List.take_succ_eq_append_getElem hlt, he, List.all_append, ha]
  simp [isDig, hc.1, hc.2]
theorem no_digit {l : List UInt8} {k : Nat} {c : UInt8} (h : l[k]? = some c) (hc : ¬ (48 ≤ c.toNat ∧ c.toNat ≤ 57)) : okN l = false := by
  refine okN_no fun ⟨h1, _⟩ => hc ?_
  have := (List.all_eq_true.1 h1) c (List.mem_of_getElem? h)
  unfold isDig at this
  rwa [Bool.and_eq_true, decide_eq_true_iff, decide_eq_true_iff] at this
theorem no_over {l : List UInt8} {k : Nat} (h : top < dval 0 (l.take k)) : okN l = false := by
  refine okN_no fun ⟨_, _, h1⟩ => ?_
  have := dval_take l k
  omega
theorem dec_head : ∀ n, 1 ≤ n → ∃ c r, decDigits n = c :: r ∧ c ≠ 48 := by
  intro n
  induction n using Nat.strongRecOn with
  | ind n ih =>
    intro h1
    by_cases h : n < 10
    · refine ⟨_, [], by rw [decDigits, dif_pos h], fun e => ?_⟩
      have := congrArg UInt8.toNat e
      rw [dig_toNat n h] at this
      have h48 : (48 : UInt8).toNat = 48 := rfl
      omega
    · obtain ⟨c, r, e, hc⟩ := ih (n / 10) (by omega) (by omega)
      exact ⟨c, r ++ [UInt8.ofNat (48 + n % 10)], by rw [decDigits, dif_neg h, e]; rfl, hc⟩
theorem no_zero {l : List UInt8} (h : 1 < l.length) (h0 : l[0]? = some 48) : okN l = false := by
  refine okN_no fun ⟨_, h2, _⟩ => ?_
  rcases Nat.eq_zero_or_pos (dval 0 l) with e | e
  · rw [e, show decDigits 0 = [48] by rw [decDigits, dif_pos (by omega)]; rfl] at h2
    rw [← h2] at h; simp at h
  · obtain ⟨c, r, e2, hc⟩ := dec_head _ e
    rw [e2] at h2
    rw [← h2] at h0
    simp at h0
    exact hc h0
theorem no_long {l : List UInt8} (h : 20 ≤ l.length) : okN l = false := by
  refine okN_no fun ⟨_, h2, h3⟩ => ?_
  have := decDigits_len_le 18 (dval 0 l) (by unfold top at h3; have : (10 : Nat) ^ (18 + 1) = 10000000000000000000 := by decide
                                             omega)
  rw [h2] at this
  omega
theorem no_none : okN [] = false := okN_no fun ⟨_, h2, _⟩ => decDigits_ne _ h2
theorem canon : ∀ (m : Nat) (l : List UInt8), l.length = m + 1 → l.all isDig = true → (1 < l.length → l[0]? ≠ some 48) → decDigits (dval 0 l) = l := by
  intro m
  induction m with
  | zero =>
    intro l hl hd _
    obtain ⟨c, rfl⟩ := List.length_eq_one_iff.1 hl
    have hc := (List.all_eq_true.1 hd) c (by simp)
    unfold isDig at hc
    rw [Bool.and_eq_true, decide_eq_true_iff, decide_eq_true_iff] at hc
    show decDigits (10 * 0 + (c.toNat - 48)) = [c]
    rw [decDigits, dif_pos (by omega)]
    congr 1
    apply UInt8.toNat_inj.1
    rw [dig_toNat _ (by omega)]; omega
  | succ m ih =>
    intro l hl hd h0
    have hne : l ≠ [] := fun e => by subst e; simp at hl
    obtain ⟨p, c, rfl⟩ : ∃ p c, l = p ++ [c] := ⟨l.dropLast, l.getLast hne, (List.dropLast_concat_getLast hne).symm⟩
    have hp : p.length = m + 1 := by simpa using hl
    rw [List.all_append, Bool.and_eq_true] at hd
    have hc := (List.all_eq_true.1 hd.2) c (by simp)
    unfold isDig at hc
    rw [Bool.and_eq_true, decide_eq_true_iff, decide_eq_true_iff] at hc
    have hp0 : p[0]? ≠ some 48 := fun e => h0 (by simp; omega) (by rw [List.getElem?_append_left (by omega)]; exact e)
    have hi := ih p hp hd.1 (fun _ => hp0)
    have hpos : 1 ≤ dval 0 p := by
      rcases Nat.eq_zero_or_pos (dval 0 p) with e | e
      · rw [e, show decDigits 0 = [48] by rw [decDigits, dif_pos (by omega)]; rfl] at hi
        rw [← hi] at hp0; simp at hp0
      · exact e
    rw [dval_snoc, decDigits, dif_neg (by omega), show (10 * dval 0 p + (c.toNat - 48)) / 10 = dval 0 p by omega, hi, show (10 * dval 0 p + (c.toNat - 48)) % 10 = c.toNat - 48 by omega]
    congr 2
    apply UInt8.toNat_inj.1
    rw [dig_toNat _ (by omega)]; omega
theorem yes_number {l : List UInt8} (h1 : 1 ≤ l.length) (hd : l.all isDig = true) (h0 : 1 < l.length → l[0]? ≠ some 48) (ht : dval 0 l ≤ top) : okN l = true :=
  (okN_iff l).2 ⟨hd, canon (l.length - 1) l (by omega) hd h0, ht⟩
end Go.TxtM
