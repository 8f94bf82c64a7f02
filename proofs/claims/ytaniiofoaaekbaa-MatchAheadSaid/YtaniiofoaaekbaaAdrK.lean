/- Plain mathematics of layer 3, second part: what the library's Split and Cut give, folds over pieces, what the reference's loops give. Nothing of any program. -/
import Derived.Test.YtaniiofoaaekbaaAdrM
import Derived.Lib.SplitLaws
import Derived.Lib.Split
import Derived.Lib.IndexMore
import Derived.Lib.IndexBytes
set_option linter.unusedVariables false
set_option linter.unusedSimpArgs false
namespace Go.AdrM
open Go.Lib

theorem index_hit (c : UInt8) : ∀ (p r : List UInt8), c ∉ p → index (p ++ c :: r) [c] = p.length := by
  intro p
  induction p with
  | nil => intro r _; rw [index_one]; simp [indexByte]
  | cons b p ih =>
    intro r h
    have hb : b ≠ c := fun e => h (by simp [e])
    have := ih r (fun e => h (by simp [e]))
    rw [index_one] at this ⊢
    rw [List.cons_append]
    unfold indexByte
    rw [if_neg (by simpa using hb), this, if_neg (by simp)]
    simp
theorem index_miss (c : UInt8) : ∀ (p : List UInt8), c ∉ p → index p [c] = -1 := by
  intro p
  induction p with
  | nil => intro _; rfl
  | cons b p ih =>
    intro h
    have hb : b ≠ c := fun e => h (by simp [e])
    have := ih (fun e => h (by simp [e]))
    rw [index_one] at this ⊢
    show (if (b == c) = true then _ else _) = _
    rw [if_neg (by simpa using hb), this]
    rfl
theorem part_at (c : UInt8) : ∀ (l : List UInt8), c ∈ l → ∃ p r, l = p ++ c :: r ∧ c ∉ p := by
  intro l
  induction l with
  | nil => intro h; cases h
  | cons b l ih =>
    intro h
    by_cases hb : b = c
    · subst hb; exact ⟨[], l, rfl, by simp⟩
    · obtain ⟨p, r, e, hp⟩ := ih (by rcases List.mem_cons.1 h with e | e; exact absurd e.symm hb; exact e)
      exact ⟨b :: p, r, by rw [e]; rfl, by rw [List.mem_cons]; rintro (e | e); exact hb e.symm; exact hp e⟩
theorem splitK_pieces (c : UInt8) : ∀ (k : Nat) (l : List UInt8), l.count c = k → splitK [c] 0 k l = pieces c l := by
  intro k
  induction k with
  | zero =>
    intro l h
    rw [pieces_miss c l (List.count_eq_zero.1 h)]
    rfl
  | succ k ih =>
    intro l h
    obtain ⟨p, r, rfl, hp⟩ := part_at c l (List.count_pos_iff.1 (by omega))
    have hc : r.count c = k := by
      rw [List.count_append, List.count_eq_zero.2 hp, List.count_cons_self] at h
      omega
    rw [pieces_hit c p r hp, ← ih r hc]
    conv => lhs; unfold splitK
    rw [index_hit c p r hp, if_neg (by simp)]
    simp
theorem splitB_pieces (s sep : ByteArray) (c : UInt8) (hsep : sep.data.toList = [c]) : (splitB sep 0 (countB s sep) s).map (·.data.toList) = pieces c s.data.toList := by
  rw [splitB_data, hsep]
  have : countB s sep = s.data.toList.count c := by
    unfold countB
    rw [hsep, count_one]
  rw [this]
  exact splitK_pieces c _ _ rfl
theorem countB_pieces (s sep : ByteArray) (c : UInt8) (hsep : sep.data.toList = [c]) : countB s sep + 1 = (pieces c s.data.toList).length := by
  rw [pieces_count]
  unfold countB
  rw [hsep, count_one]
theorem cut_left (l : List UInt8) : (cut l [47]).1 = left l ∧ (cut l [47]).2.1 = right l := by
  rcases (split_at l).2 with ⟨h1, h2, h3⟩ | h
  · unfold cut
    rw [index_miss 47 l h3, if_neg (by omega)]
    exact ⟨h1, h2.symm⟩
  · have hn := (split_at l).1
    have hi := index_hit 47 (left l) (right l) hn
    rw [← h] at hi
    unfold cut
    rw [hi, if_pos (by omega)]
    refine ⟨?_, ?_⟩
    · show l.take _ = _
      conv => lhs; arg 2; rw [h]
      simp
    · show l.drop _ = _
      conv => lhs; arg 2; rw [h]
      simp

theorem pieces_len (c : UInt8) : ∀ (l : List UInt8), ∀ p ∈ pieces c l, p.length ≤ l.length := by
  intro l
  induction l with
  | nil => intro p hp; simp [pieces] at hp; simp [hp]
  | cons b l ih =>
    intro p hp
    unfold pieces at hp
    split at hp
    · rcases List.mem_cons.1 hp with rfl | hp
      · simp
      · have := ih p hp; simp; omega
    · split at hp
      · rename_i q qs hq
        rcases List.mem_cons.1 hp with rfl | hp
        · have := ih q (by rw [hq]; simp); simp; omega
        · have := ih p (by rw [hq]; simp [hp]); simp; omega
      · rename_i hq; exact absurd hq (pieces_ne c l)
/-- The pieces as digits, from an accumulator. -/
def fold : Nat → List (List UInt8) → Option Nat
  | a, [] => some a
  | a, p :: ps => match byteS p with
    | some n => fold (a * 256 + n) ps
    | none => none
theorem fold_four (p q r s : List UInt8) : fold 0 [p, q, r, s] = (match byteS p, byteS q, byteS r, byteS s with
    | some a, some b, some c, some d => some (((a * 256 + b) * 256 + c) * 256 + d)
    | _, _, _, _ => none) := by
  simp only [fold]
  cases byteS p <;> cases byteS q <;> cases byteS r <;> cases byteS s <;> simp
theorem parseS_fold (l : List UInt8) : parseS l = if (pieces 46 l).length = 4 then fold 0 (pieces 46 l) else none := by
  unfold parseS
  generalize pieces 46 l = L
  match L with
  | [] => rfl
  | [_] => rfl
  | [_, _] => rfl
  | [_, _, _] => rfl
  | [p, q, r, s] => rw [if_pos (by simp), fold_four]; try rfl
  | _ :: _ :: _ :: _ :: _ :: _ => rw [if_neg (by simp)]
theorem fold_step {ps : List (List UInt8)} {k a n : Nat} {p : List UInt8} (hk : ps[k]? = some p) (hn : byteS p = some n) : fold a (ps.drop k) = fold (a * 256 + n) (ps.drop (k + 1)) := by
  obtain ⟨hlt, he⟩ := List.getElem?_eq_some_iff.1 hk
  rw [List.drop_eq_getElem_cons hlt, he]
  conv => lhs; unfold fold
  rw [hn]
theorem fold_stop {ps : List (List UInt8)} {k a : Nat} {p : List UInt8} (hk : ps[k]? = some p) (hn : byteS p = none) : fold a (ps.drop k) = none := by
  obtain ⟨hlt, he⟩ := List.getElem?_eq_some_iff.1 hk
  rw [List.drop_eq_getElem_cons hlt, he]
  unfold fold
  rw [hn]
theorem fold_end {ps : List (List UInt8)} {k a : Nat} (hk : ps.length ≤ k) : fold a (ps.drop k) = some a := by
  rw [List.drop_eq_nil_of_le hk]; rfl

/-- What the reference's Number answers. -/
def refNum (l : List UInt8) : Int := match numS l with
  | some n => if n < 1000000000 then (n : Int) else -1
  | none => -1
theorem isDig_le {c : UInt8} (h : isDig c = true) : 48 ≤ c.toNat ∧ c.toNat ≤ 57 := by
  unfold isDig at h; rw [Bool.and_eq_true, decide_eq_true_iff, decide_eq_true_iff] at h; exact h
theorem dval_lt : ∀ (l : List UInt8) (a : Nat), l.all isDig = true → dval a l < (a + 1) * 10 ^ l.length := by
  intro l
  induction l with
  | nil =>
    intro a _
    rw [List.length_nil, Nat.pow_zero, Nat.mul_one]
    exact Nat.lt_succ_self a
  | cons c l ih =>
    intro a h
    rw [List.all_cons, Bool.and_eq_true] at h
    have h1 := ih (10 * a + (c.toNat - 48)) h.2
    have h2 := isDig_le h.1
    show dval (10 * a + (c.toNat - 48)) l < _
    refine Nat.lt_of_lt_of_le h1 ?_
    rw [List.length_cons, Nat.pow_succ, Nat.mul_comm (10 ^ l.length) 10, ← Nat.mul_assoc]
    exact Nat.mul_le_mul_right _ (by omega)
theorem dval_lt9 {l : List UInt8} {k : Nat} (h : (l.take k).all isDig = true) (hk : k ≤ 9) : dval 0 (l.take k) < 1000000000 := by
  have h1 := dval_lt _ 0 h
  have h2 : (l.take k).length ≤ 9 := by simp; omega
  have h3 : 10 ^ (l.take k).length ≤ 10 ^ 9 := Nat.pow_le_pow_right (by omega) h2
  omega
theorem dval_lt8 {l : List UInt8} {k : Nat} (h : (l.take k).all isDig = true) (hk : k ≤ 8) : dval 0 (l.take k) < 100000000 := by
  have h1 := dval_lt _ 0 h
  have h2 : (l.take k).length ≤ 8 := by simp; omega
  have h3 : 10 ^ (l.take k).length ≤ 10 ^ 8 := Nat.pow_le_pow_right (by omega) h2
  omega
theorem take_step {l : List UInt8} {k : Nat} {c : UInt8} (h : l[k]? = some c) : l.take (k + 1) = l.take k ++ [c] := by
  rw [List.take_add_one, h]; rfl
theorem dval_step {l : List UInt8} {k : Nat} {c : UInt8} (h : l[k]? = some c) : dval 0 (l.take (k + 1)) = 10 * dval 0 (l.take k) + (c.toNat - 48) := by
  rw [take_step h, dval_append]; rfl
theorem all_step {l : List UInt8} {k : Nat} {c : UInt8} (h : l[k]? = some c) (hd : (l.take k).all isDig = true) (hc : 48 ≤ c.toNat ∧ c.toNat ≤ 57) : (l.take (k + 1)).all isDig = true := by
  rw [take_step h, List.all_append, hd]
  simp [isDig, hc]
theorem refNum_bad {l : List UInt8} {k : Nat} {c : UInt8} (h : l[k]? = some c) (hc : ¬ (48 ≤ c.toNat ∧ c.toNat ≤ 57)) : refNum l = -1 := by
  have : numS l = none := numS_none (fun n e => by
    have h1 := decDigits_dig n c (by rw [← e]; exact List.mem_of_getElem? h)
    exact hc (isDig_le h1))
  unfold refNum; rw [this]
theorem refNum_end {l : List UInt8} {k : Nat} (hk : k ≤ 9) (hd : (l.take k).all isDig = true) (h : l.length ≤ k ∨ k = 9) :
    refNum l = if decDigits (dval 0 (l.take k)) = l then (dval 0 (l.take k) : Int) else -1 := by
  have h9 := dval_lt9 hd hk
  by_cases e : decDigits (dval 0 (l.take k)) = l
  · rw [if_pos e]
    unfold refNum
    rw [numS_some.2 e.symm]
    show (if dval 0 (l.take k) < 1000000000 then _ else _) = _
    rw [if_pos h9]
  · rw [if_neg e]
    unfold refNum
    cases hn : numS l with
    | none => rfl
    | some m =>
      have hl := numS_some.1 hn
      show (if m < 1000000000 then _ else _) = _
      by_cases hm : m < 1000000000
      · have hlen := decDigits_len_le 8 m hm
        rw [← hl] at hlen
        have : l.take k = l := List.take_of_length_le (by omega)
        exfalso
        apply e
        rw [this, hl, decDigits_val]
      · rw [if_neg hm]

/-- 'a<<8 | c' of 32 bits. -/
theorem or_low (a n : Nat) (ha : a < 16777216) (hn : n < 256) : (a * 256 % 4294967296) ||| n = a * 256 + n := by
  rw [Nat.mod_eq_of_lt (by omega)]
  have := Nat.two_pow_add_eq_or_of_lt (i := 8) (b := n) hn a
  rw [show (2 : Nat) ^ 8 = 256 by decide, Nat.mul_comm] at this
  exact this.symm

end Go.AdrM
