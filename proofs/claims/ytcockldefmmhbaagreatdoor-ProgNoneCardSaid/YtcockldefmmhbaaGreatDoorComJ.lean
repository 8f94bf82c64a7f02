/- Any program: a pool of operations of a region that draws its order, each of which may come up at any time: walked by what they have done so far. -/
import Derived.Test.YtcockldefmmhbaaGreatDoorRows
import Derived.WalkKit
import Derived.ProofKit
import Derived.RegionTactic
set_option linter.unusedVariables false
set_option linter.unusedSimpArgs false
namespace Go.Proofs.YtcockldefmmhbaaGreatDoor
namespace Pool

/-- The operations of D ticked off. -/
def ticked (L : Array Bool) (D : List Nat) : Array Bool := D.foldl (fun l i => l.setIfInBounds i true) L
theorem ticked_snoc (L : Array Bool) (D : List Nat) (i : Nat) : ticked L (D ++ [i]) = (ticked L D).setIfInBounds i true := by simp [ticked]
theorem ticked_perm {D E : List Nat} (h : D.Perm E) : ∀ L : Array Bool, ticked L D = ticked L E := by
  induction h with
  | nil => intro L; rfl
  | cons x _ ih => intro L; exact ih _
  | swap x y l =>
    intro L
    show ticked ((L.setIfInBounds y true).setIfInBounds x true) l = ticked ((L.setIfInBounds x true).setIfInBounds y true) l
    by_cases h : y = x
    · rw [h]
    · rw [Array.setIfInBounds_comm _ _ h]
  | trans _ _ ih1 ih2 => intro L; exact (ih1 L).trans (ih2 L)
theorem ticked_size : ∀ (D : List Nat) (L : Array Bool), (ticked L D).size = L.size
  | [], _ => rfl
  | x :: D, L => (ticked_size D _).trans (by simp)
theorem ticked_not {i : Nat} (d : Bool) : ∀ (D : List Nat) (L : Array Bool), i ∉ D → (ticked L D).getD i d = L.getD i d
  | [], _, _ => rfl
  | x :: D, L, h => by
    have h1 : i ≠ x := fun e => h (by simp [e])
    have h2 : i ∉ D := fun e => h (by simp [e])
    exact (ticked_not d D _ h2).trans (getD_set_ne d (Ne.symm h1))
theorem set_still {i j : Nat} (L : Array Bool) (h : L.getD j true = true) : (L.setIfInBounds i true).getD j true = true := by
  by_cases hij : i = j
  · subst hij
    rcases Nat.lt_or_ge i L.size with h' | h'
    · simp [h']
    · simp [h']
  · rw [getD_set_ne true hij]; exact h
theorem ticked_still {i : Nat} : ∀ (D : List Nat) (L : Array Bool), L.getD i true = true → (ticked L D).getD i true = true
  | [], _, h => h
  | x :: D, L, h => ticked_still D _ (set_still L h)
theorem ticked_mem {i : Nat} : ∀ (D : List Nat) (L : Array Bool), i ∈ D → (ticked L D).getD i true = true
  | [], _, h => by cases h
  | x :: D, L, h => by
    rcases List.mem_cons.1 h with rfl | h
    · refine ticked_still D _ ?_
      rcases Nat.lt_or_ge i L.size with h' | h'
      · simp [h']
      · simp [h']
    · exact ticked_mem D _ h
theorem false_of {L : Array Bool} {i : Nat} (h : L.getD i true = false) : L.getD i false = false := by
  rcases Nat.lt_or_ge i L.size with h' | h'
  · simp [h'] at h ⊢; exact h
  · simp [h']
theorem true_of {L : Array Bool} {i : Nat} (h : L.getD i false = true) : L.getD i true = true := by
  rcases Nat.lt_or_ge i L.size with h' | h'
  · simp [h'] at h ⊢; exact h
  · simp [h']
theorem ticked_done {i : Nat} (D : List Nat) (L : Array Bool) (h : L.getD i false = true) : (ticked L D).getD i false = true := by
  have h1 := ticked_still D L (true_of h)
  rcases Nat.lt_or_ge i L.size with h' | h'
  · have h2 : i < (ticked L D).size := by rw [ticked_size]; exact h'
    simp [h2] at h1 ⊢; exact h1
  · simp [h'] at h

section
variable {P : Program} {md : Region.Mode} {ops : Array Oper} {Q : Exit → Act → World → Prop}

/-- Each of the pool may come up; each other that has not come up waits for each of the pool. -/
def inB (md : Region.Mode) (ops : Array Oper) (L : Array Bool) (pool : List Nat) : Bool := pool.all fun i => (Region.ready md ops L).contains i
def outB (md : Region.Mode) (ops : Array Oper) (L : Array Bool) (pool : List Nat) : Bool :=
  (List.range ops.size).all fun i => pool.contains i || L.getD i true || (match ops[i]? with | none => true | some o => pool.all fun p => o.after.any fun e => Region.binds md e && e.on == p)

theorem wpAny_pool (pool : List Nat) (L : Array Bool) (a : Act) (J : List Nat → World → Prop) (fuel : Nat) (hnd : pool.Nodup) (hin : inB md ops L pool = true) (hout : outB md ops L pool = true)
    (hstep : ∀ D i w, (∀ x ∈ D, x ∈ pool) → i ∈ pool → i ∉ D → J D w → wpOp P ops Q i (fun a' w' => a' = a ∧ J (D ++ [i]) w') a w)
    (hend : ∀ D w, D.Perm pool → J D w → wpAny P md ops Q fuel (ticked L pool) a w) :
    ∀ (n : Nat) (R D : List Nat) (w : World), R.length = n → (D ++ R).Perm pool → J D w → wpAny P md ops Q (fuel + n) (ticked L D) a w := by
  intro n
  induction n with
  | zero =>
    intro R D w hR hp hJ
    obtain rfl : R = [] := List.length_eq_zero_iff.1 hR
    rw [List.append_nil] at hp
    rw [ticked_perm hp L]
    exact hend D w hp hJ
  | succ n ih =>
    intro R D w hR hp hJ
    have hDR : (D ++ R).Nodup := hp.nodup_iff.2 hnd
    have hD : ∀ x ∈ D, x ∈ pool := fun x hx => hp.subset (by simp [hx])
    have hRp : ∀ x ∈ R, x ∈ pool := fun x hx => hp.subset (by simp [hx])
    have hnot : ∀ x ∈ R, x ∉ D := fun x hx hx2 => (List.nodup_append.1 hDR).2.2 x hx2 x hx rfl
    have hread : ∀ x ∈ pool, x ∈ Region.ready md ops L := fun x hx => by
      have := List.all_eq_true.1 hin x hx
      simpa using this
    have hall : ∀ i ∈ Region.ready md ops (ticked L D), i ∈ R := by
      intro i hi
      obtain ⟨h0, o, ho, hw⟩ := mem_ready.1 hi
      have hiD : i ∉ D := fun h => by rw [ticked_mem D L h] at h0; cases h0
      rw [ticked_not true D L hiD] at h0
      have hip : i ∈ pool := by
        have h1 := List.all_eq_true.1 hout i (List.mem_range.2 (Array.getElem?_eq_some_iff.1 ho).1)
        rw [h0, ho] at h1
        simp only [Bool.or_false, Bool.or_eq_true, List.contains_iff_mem] at h1
        rcases h1 with h1 | h1
        · exact h1
        · exfalso
          have hne : R ≠ [] := fun e => by rw [e] at hR; cases hR
          obtain ⟨r, hr⟩ := List.exists_mem_of_ne_nil R hne
          have h2 := List.all_eq_true.1 h1 r (hRp r hr)
          obtain ⟨e, he, he2⟩ := Array.any_eq_true'.1 h2
          simp only [Bool.and_eq_true, beq_iff_eq] at he2
          have h3 := hw e he he2.1
          rw [he2.2, ticked_not false D L (hnot r hr), false_of (mem_ready.1 (hread r (hRp r hr))).1] at h3
          cases h3
      rcases List.mem_append.1 (hp.symm.subset hip) with h | h
      · exact absurd h hiD
      · exact h
    have hsome : Region.ready md ops (ticked L D) ≠ [] := by
      have hne : R ≠ [] := fun e => by rw [e] at hR; cases hR
      obtain ⟨r, hr⟩ := List.exists_mem_of_ne_nil R hne
      obtain ⟨h0, o, ho, hw⟩ := mem_ready.1 (hread r (hRp r hr))
      have : r ∈ Region.ready md ops (ticked L D) := mem_ready.2 ⟨by rw [ticked_not true D L (hnot r hr)]; exact h0, o, ho, fun e he hb => ticked_done D L (hw e he hb)⟩
      intro e
      rw [e] at this
      cases this
    refine wpAny_all rfl hsome fun i hi => ?_
    have hiR := hall i hi
    refine wpOp_mono (fun a' w' h => ?_) (hstep D i w hD (hRp i hiR) (hnot i hiR) hJ)
    obtain ⟨rfl, hJ'⟩ := h
    rw [← ticked_snoc]
    refine ih (R.erase i) (D ++ [i]) w' ?_ ?_ hJ'
    · rw [List.length_erase_of_mem hiR, hR]; rfl
    · have h1 : R.Perm (i :: R.erase i) := List.perm_cons_erase hiR
      have h2 : (D ++ [i] ++ R.erase i).Perm (D ++ R) := by
        rw [List.append_assoc]
        exact (List.Perm.append_left D h1.symm)
      exact h2.trans hp

theorem wpAny_pool_start (pool : List Nat) (L : Array Bool) (a : Act) (J : List Nat → World → Prop) (fuel n : Nat) (hnd : pool.Nodup) (hlen : pool.length = n) (hin : inB md ops L pool = true) (hout : outB md ops L pool = true) (w : World) (hJ : J [] w)
    (hstep : ∀ D i w, (∀ x ∈ D, x ∈ pool) → i ∈ pool → i ∉ D → J D w → wpOp P ops Q i (fun a' w' => a' = a ∧ J (D ++ [i]) w') a w)
    (hend : ∀ D w, D.Perm pool → J D w → wpAny P md ops Q fuel (ticked L pool) a w) : wpAny P md ops Q (fuel + n) L a w :=
  wpAny_pool pool L a J fuel hnd hin hout hstep hend n pool [] w hlen (List.Perm.refl _) hJ

/-- An operation taken first, with its temporary told. -/
theorem wpAny_take_at (i d : Nat) (v : Value) {oi : Oper} {fuel : Nat} {L : Array Bool} {a : Act} {w : World} (hi : ops[i]? = some oi) (hd : oi.dst = some d)
    (hs : Region.noSelect ops = true) (hf : Region.free md ops L i = true) (hr : (Region.ready md ops L).contains i = true)
    (hQ : ∀ c a w, Q (.panic c) (a.put oi.dst v) w → Q (.panic c) a w) (hy : Yields P ops oi v a)
    (h : wpAny P md ops Q fuel (L.setIfInBounds i true) { a with tmps := a.tmps.setIfInBounds d v } w) : wpAny P md ops Q (fuel + 1) L a w := by
  refine wpAny_take hi hs hf hr hQ hy ?_
  rw [hd]
  exact h

/-- An entry laid into a map, as a step of a region. -/
theorem wpOp_insert {i : Nat} {o : Oper} {a : Act} {w w' : World} {K : Act → World → Prop} {t : TypeId} {m k v : Operand} (ho : ops[i]? = some o) (hg : o.guard = none) (hd : o.dst = none) (hop : o.op = .insert t m k v)
    (h : (Instr.mapUpdate t (a.eval m) (a.eval k) (a.eval v)).run P w = .ok () w') (hK : K a w') : wpOp P ops Q i K a w := by
  refine wpOp_step ho (fun K' hK' => ?_)
  have hw : Region.wanted o (yielded ops a.tmps) = true := by simp [Region.wanted, hg]
  rw [if_pos hw]
  unfold Oper.wp
  have hx : (execOp a.eval o).run P w = .ok (.value undef) w' ∨ (execOp a.eval o).run P w = .ok .skip w' := by
    simp [execOp, hop, h, Result.andThen]
  have hp : ∀ x, a.put o.dst x = a := fun x => by rw [hd]; rfl
  rcases hx with hx | hx <;> rw [hx]
  · show K' (a.put o.dst undef) w'
    rw [hp]; exact hK' _ _ hK
  · show K' (a.put o.dst undef) w'
    rw [hp]; exact hK' _ _ hK
end
end Pool
end Go.Proofs.YtcockldefmmhbaaGreatDoor
