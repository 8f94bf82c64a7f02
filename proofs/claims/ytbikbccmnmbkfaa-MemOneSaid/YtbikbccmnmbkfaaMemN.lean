/- Layer 19, plain mathematics: a mutex's holder out of the log; threads that lock and unlock; a word that is counted up. -/
import Derived.Test.YtbikbccmnmbkfaaMemM
set_option linter.unusedVariables false
namespace Go.MemM
/-- What an access makes of mutex k's holder: none where two hold it, or one frees what is another's. -/
def hstep (k : Int) (a : Ac) (h : Int) : Option Int :=
  if a.p ≠ 3 * k + 1 then some h else if (a.k = 1 ∧ 0 ≤ h) ∨ (a.k = 2 ∧ h ≠ a.t) then none else some (if a.k = 1 then a.t else -1)
def hrun (k : Int) (l : List Ac) : Option Int := l.foldl (fun o a => o.bind (hstep k a)) (some (-1))
theorem hrun_snoc (k : Int) (l : List Ac) (a : Ac) : hrun k (l ++ [a]) = (hrun k l).bind (hstep k a) := by simp [hrun, List.foldl_append]
theorem fold_none (k : Int) (l : List Ac) : l.foldl (fun o a => o.bind (hstep k a)) none = none := by
  induction l with
  | nil => rfl
  | cons a l ih => exact ih
theorem hrun_take (k : Int) (l : List Ac) (h : Int) (hr : hrun k l = some h) (i : Nat) : ∃ x, hrun k (l.take i) = some x := by
  cases e : hrun k (l.take i) with
  | some x => exact ⟨x, rfl⟩
  | none =>
    have : hrun k (l.take i ++ l.drop i) = none := by
      unfold hrun at e ⊢
      rw [List.foldl_append, e, fold_none]
    rw [List.take_append_drop, hr] at this
    cases this
/-- The next access: what it makes of the holder. -/
theorem hrun_next (k : Int) (l : List Ac) (h : Int) (hr : hrun k l = some h) {i : Nat} (hi : i < l.length) {x : Int} (hx : hrun k (l.take i) = some x) : ∃ y, hstep k l[i] x = some y ∧ hrun k (l.take (i + 1)) = some y := by
  obtain ⟨y, hy⟩ := hrun_take k l h hr (i + 1)
  refine ⟨y, ?_, hy⟩
  rw [List.take_succ_eq_append_getElem hi, hrun_snoc, hx] at hy
  exact hy
/-- Each mutex's holder is what the log says. -/
def Holds (s : Ms) : Prop := ∀ k : Nat, k < s.hs.length → hrun k s.ls = some (s.hs.getD k 0)
theorem Holds.new (a b : Int) : Holds (newS a b) := by
  intro k hk
  simp [newS] at hk
  simp [newS, hrun, List.getD, hk]
theorem getD_set {l : List Int} {i k : Nat} (h : k < l.length) (x : Int) : (l.set i x).getD k 0 = if i = k then x else l.getD k 0 := by
  simp only [List.getD, List.getElem?_set]
  split
  · rename_i e; subst e; simp [h]
  · rfl
theorem Holds.lock {s : Ms} (h : Holds s) (t i : Int) : Holds (lockS s t i) := by
  unfold lockS
  split
  · rename_i hb
    simp only [lockB, Bool.and_eq_true, decide_eq_true_eq, beq_iff_eq] at hb
    obtain ⟨⟨ht, hh⟩, hv⟩ := hb
    obtain ⟨j, rfl, hj⟩ := has_yes hh
    rw [at_nat] at hv
    intro k hk
    simp only [say, Int.toNat_natCast] at hk ⊢
    rw [List.length_set] at hk
    rw [hrun_snoc, h k hk, getD_set hk]
    show hstep _ _ _ = _
    by_cases e : j = k
    · subst e
      rw [if_pos rfl, hv]
      simp [hstep]
    · rw [if_neg e]
      unfold hstep
      rw [if_pos (by simp only; omega)]
  · exact h
theorem Holds.unlock {s : Ms} (h : Holds s) (t i : Int) : Holds (unlockS s t i) := by
  unfold unlockS
  split
  · rename_i hb
    unfold unlockV at hb
    split at hb
    · omega
    · rename_i hh
      split at hb
      · omega
      · rename_i hn
        obtain ⟨j, rfl, hj⟩ := has_yes (by simpa using hh)
        rw [at_nat] at hn
        intro k hk
        simp only [say, Int.toNat_natCast] at hk ⊢
        rw [List.length_set] at hk
        rw [hrun_snoc, h k hk, getD_set hk]
        show hstep _ _ _ = _
        by_cases e : j = k
        · subst e
          rw [if_pos rfl]
          unfold hstep
          rw [if_neg (by simp), if_neg (by simp only; omega), if_neg (by simp)]
        · rw [if_neg e]
          unfold hstep
          rw [if_pos (by simp only; omega)]
  · exact h
theorem lock_len (s : Ms) (t i : Int) : (lockS s t i).hs.length = s.hs.length ∧ (lockS s t i).ls.length ≤ s.ls.length + 1 := by
  unfold lockS; split
  · exact ⟨by simp [say], by simp [say]⟩
  · exact ⟨rfl, by omega⟩
theorem unlock_len (s : Ms) (t i : Int) : (unlockS s t i).hs.length = s.hs.length ∧ (unlockS s t i).ls.length ≤ s.ls.length + 1 := by
  unfold unlockS; split
  · exact ⟨by simp [say], by simp [say]⟩
  · exact ⟨rfl, by omega⟩
end Go.MemM
