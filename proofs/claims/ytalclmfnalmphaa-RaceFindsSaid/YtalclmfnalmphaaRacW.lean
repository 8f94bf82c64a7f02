/- Layer 24: a map keyed by int, of any program: what a block that holds it answers when it is asked and written. -/
import Derived.Test.YtalclmfnalmphaaComN
import Derived.ChangeMaps5
import Derived.MapKept
set_option linter.unusedVariables false
set_option linter.unusedSimpArgs false
namespace Go.Mtl
open Go.RowKit
open Go.ChangeMaps (setBlock)

/-- The first entry at a key, and its place. -/
def gat (k : Int) : List (Int × Value) → Nat → Option (Nat × Value)
  | [], _ => none
  | g :: l, i => if k = g.1 then some (i, g.2) else gat k l (i + 1)
def gval (k : Int) (l : List (Int × Value)) : Option Value := (gat k l 0).map (·.2)
theorem gat_from (k : Int) (l : List (Int × Value)) : ∀ i, gat k l i = (gat k l 0).map fun x => (i + x.1, x.2) := by
  induction l with
  | nil => intro i; rfl
  | cons g l ih =>
    intro i
    unfold gat
    split
    · rfl
    · rw [ih (i + 1), ih (0 + 1)]
      cases gat k l 0 with
      | none => rfl
      | some x => simp; omega
theorem gval_cons (k : Int) (g : Int × Value) (l : List (Int × Value)) : gval k (g :: l) = if k = g.1 then some g.2 else gval k l := by
  unfold gval
  rw [gat]
  split
  · rfl
  · rw [gat_from k l (0 + 1)]
    cases gat k l 0 <;> rfl
theorem gval_snoc (k a : Int) (v : Value) (l : List (Int × Value)) (h : gval a l = none) : gval k (l ++ [(a, v)]) = if k = a then some v else gval k l := by
  induction l with
  | nil => rw [List.nil_append, gval_cons]
  | cons g l ih =>
    rw [gval_cons] at h
    split at h
    · cases h
    · rename_i hn
      rw [List.cons_append, gval_cons, gval_cons, ih h]
      by_cases e : k = a
      · subst e; rw [if_neg hn, if_pos rfl, if_pos rfl]
      · rw [if_neg e, if_neg e]
theorem gat_lt {k : Int} {l : List (Int × Value)} {j : Nat} {v : Value} (h : gat k l 0 = some (j, v)) : l[j]? = some (k, v) := by
  induction l generalizing j with
  | nil => cases h
  | cons g l ih =>
    rw [gat] at h
    split at h
    · rename_i e
      obtain ⟨rfl, rfl⟩ := Prod.mk.inj (Option.some.inj h)
      subst e; rfl
    · rw [gat_from] at h
      cases hq : gat k l 0 with
      | none => rw [hq] at h; cases h
      | some x =>
        rw [hq] at h
        obtain ⟨j', v'⟩ := x
        simp only [Option.map_some, Option.some.injEq, Prod.mk.injEq] at h
        obtain ⟨rfl, rfl⟩ := h
        rw [show 0 + 1 + j' = j' + 1 by omega, List.getElem?_cons_succ]
        exact ih hq
theorem gval_set (k : Int) {a : Int} {u v : Value} {j : Nat} {l : List (Int × Value)} (h : gat a l 0 = some (j, u)) : gval k (l.set j (a, v)) = if k = a then some v else gval k l := by
  induction l generalizing j with
  | nil => cases h
  | cons g l ih =>
    rw [gat] at h
    split at h
    · rename_i e
      obtain ⟨rfl, rfl⟩ := Prod.mk.inj (Option.some.inj h)
      rw [List.set_cons_zero, gval_cons, gval_cons]
      subst e
      by_cases hk : k = g.1
      · rw [if_pos hk, if_pos hk]
      · rw [if_neg hk, if_neg hk, if_neg hk]
    · rename_i hn
      rw [gat_from] at h
      cases hq : gat a l 0 with
      | none => rw [hq] at h; cases h
      | some x =>
        rw [hq] at h
        obtain ⟨j', v'⟩ := x
        simp only [Option.map_some, Option.some.injEq, Prod.mk.injEq] at h
        obtain ⟨rfl, rfl⟩ := h
        rw [show 0 + 1 + j' = j' + 1 by omega, List.set_cons_succ, gval_cons, gval_cons, ih hq]
        by_cases e : k = a
        · subst e; rw [if_neg hn, if_pos rfl, if_pos rfl]
        · rw [if_neg e, if_neg e]
def kvI (g : Int × Value) : Value × Value := (.int .i64 g.1, g.2)
def entI (e : MapEntry) : Value × Value := (e.key, e.val)
theorem find_gat (q : IntKind) (k : Int) : ∀ (es : List MapEntry) (gs : List (Int × Value)) (i : Nat), es.map entI = gs.map kvI → Instr.findNow (.int q) (.int .i64 k) es i = some (gat k gs i) := by
  intro es
  induction es with
  | nil => intro gs i h; cases gs with
    | nil => rfl
    | cons g gs => simp at h
  | cons e es ih =>
    intro gs i h
    cases gs with
    | nil => simp at h
    | cons g gs =>
      simp only [List.map_cons, List.cons.injEq] at h
      obtain ⟨h1, h2⟩ := h
      unfold entI kvI at h1
      injection h1 with hk hv
      unfold Instr.findNow gat
      rw [hk, hv]
      simp only [Instr.sameNow, if_true]
      by_cases e : k = g.1
      · subst e; simp
      · rw [if_neg e, show (k == g.1) = false by simpa using e]
        exact ih gs (i + 1) h2
/-- Block M is a map that answers so. -/
def MapI (w : World) (M : Nat) (f : Int → Option Value) : Prop :=
  ∃ (es : Array MapEntry) (clock : Nat) (gs : List (Int × Value)), w.heap[M]? = some (.map es clock) ∧ es.toList.map entI = gs.map kvI ∧ ∀ k, gval k gs = f k
section
variable {w w' : World} {M : Nat} {f : Int → Option Value} {P : Program} {T K E : TypeId} {q : IntKind}
theorem MapI.lt (H : MapI w M f) : M < w.heap.size := by
  obtain ⟨es, clock, gs, h, _⟩ := H
  exact (Array.getElem?_eq_some_iff.1 h).1
theorem MapI.keep (H : MapI w M f) (h : w'.heap[M]? = w.heap[M]?) : MapI w' M f := by
  obtain ⟨es, clock, gs, h0, hr⟩ := H
  exact ⟨es, clock, gs, h.trans h0, hr⟩
theorem MapI.below (H : MapI w M f) {B : Nat} (hb : Below B w w') (hM : M < B) : MapI w' M f := H.keep (hb.block M hM)
theorem MapI.next (H : MapI w M f) (hb : Below w.heap.size w w') : MapI w' M f := H.below hb H.lt
theorem MapI.only {O : Nat → Prop} (H : MapI w M f) (ho : Only O w w') (hn : ¬ O M) : MapI w' M f := H.keep (ho.block M H.lt hn)
theorem MapI.new (w : World) : MapI (w.alloc (.map #[] 0)) w.heap.size fun _ => none :=
  ⟨#[], 0, [], MapKept.heap_alloc w _ |>.1, rfl, fun _ => rfl⟩
theorem key_int (hK : P.underlying K = some (.int q)) (em : Bool) (n : Nat) (k : Int) (w : World) : (Instr.checkKey em (n + 1) K (.int .i64 k)).run P w = .ok () w := by
  rw [Instr.checkKey]; simp only [Sem.run_bind, run_underlying hK, Result.andThen_ok]; rfl
theorem find_run (hK : P.underlying K = some (.int q)) {es : List MapEntry} {gs : List (Int × Value)} (h : es.map entI = gs.map kvI) (k : Int) (w : World) : (Instr.findKey K (.int .i64 k) es).run P w = .ok (gat k gs 0) w :=
  MapKept.run_findKey hK (find_gat q k es gs 0 h)
theorem MapI.look (H : MapI w M f) (hT : P.underlying T = some (.map K E)) (hK : P.underlying K = some (.int q)) {z : Value} (hz : ∀ w : World, (zeroValue E).run P w = .ok z w) (k : Int) :
    (Instr.lookup T (.map (some M)) (.int .i64 k) false).run P w = .ok ((f k).getD z) w := by
  obtain ⟨es, clock, gs, h0, h1, h2⟩ := H
  have hv : (gat k gs 0).map (·.2) = f k := h2 k
  have hc : ∀ em, (Instr.checkKey em 10000 K (.int .i64 k)).run P w = .ok () w := fun em => key_int hK em 9999 k w
  simp only [Instr.lookup, Sem.run_bind, Sem.run_pure, run_underlying hT, Result.andThen_ok, MapKept.run_getObj_map h0, hc, find_run hK h1 k w]
  rw [← hv]
  cases hg : gat k gs 0 with
  | none => simp only [Sem.run_bind, hz, Result.andThen_ok, Sem.run_pure, Option.map_none, Option.getD_none]; rfl
  | some x => simp only [Sem.run_bind, Sem.run_pure, Result.andThen_ok, Option.map_some, Option.getD_some]; rfl
theorem MapI.look_ok (H : MapI w M f) (hT : P.underlying T = some (.map K E)) (hK : P.underlying K = some (.int q)) {z : Value} (hz : ∀ w : World, (zeroValue E).run P w = .ok z w) (k : Int) :
    (Instr.lookup T (.map (some M)) (.int .i64 k) true).run P w = .ok (.tuple #[(f k).getD z, .bool (f k).isSome]) w := by
  obtain ⟨es, clock, gs, h0, h1, h2⟩ := H
  have hv : (gat k gs 0).map (·.2) = f k := h2 k
  have hc : ∀ em, (Instr.checkKey em 10000 K (.int .i64 k)).run P w = .ok () w := fun em => key_int hK em 9999 k w
  simp only [Instr.lookup, Sem.run_bind, Sem.run_pure, run_underlying hT, Result.andThen_ok, MapKept.run_getObj_map h0, hc, find_run hK h1 k w]
  rw [← hv]
  cases hg : gat k gs 0 with
  | none => simp only [Sem.run_bind, hz, Result.andThen_ok, Sem.run_pure, Option.map_none, Option.getD_none]; rfl
  | some x => simp only [Sem.run_bind, Sem.run_pure, Result.andThen_ok, Option.map_some, Option.getD_some]; rfl
theorem MapI.put (H : MapI w M f) (hT : P.underlying T = some (.map K E)) (hK : P.underlying K = some (.int q)) (k : Int) (v : Value) :
    ∃ w', (Instr.mapUpdate T (.map (some M)) (.int .i64 k) v).run P w = .ok () w' ∧ MapI w' M (fun j => if j = k then some v else f j) ∧ Only (· = M) w w' := by
  obtain ⟨es, clock, gs, h0, h1, h2⟩ := H
  have hc : ∀ em, (Instr.checkKey em 10000 K (.int .i64 k)).run P w = .ok () w := fun em => key_int hK em 9999 k w
  have hl : es.size = gs.length := by have := congrArg List.length h1; simpa using this
  cases hg : gat k gs 0 with
  | none =>
    refine ⟨setBlock w M (.map (es.push { key := .int .i64 k, val := v, born := clock }) (clock + 1)), ?_, ⟨_, _, gs ++ [(k, v)], ChangeMaps.heap_setBlock_same h0 _, by simp [h1, entI, kvI], fun j => ?_⟩, ⟨rfl, rfl, rfl, by simp [setBlock], fun j _ hj => ChangeMaps.heap_setBlock_other h0 _ hj⟩⟩
    · simp only [Instr.mapUpdate, Sem.run_bind, run_underlying hT, Result.andThen_ok, MapKept.run_getObj_map h0, hc, find_run hK h1 k w, hg, MapKept.run_setObj_map _ h0]
      rfl
    · rw [gval_snoc j k v gs (by unfold gval; rw [hg]; rfl), h2]
  | some x =>
    obtain ⟨j, u⟩ := x
    have hj := gat_lt hg
    have hlt : j < es.size := by have := (List.getElem?_eq_some_iff.1 hj).1; omega
    have hkey : (es[j]?).map (·.key) = some (.int .i64 k) := by
      have h5 := congrArg (·[j]?) h1
      simp only [List.getElem?_map, hj, Option.map_some, Array.getElem?_toList] at h5
      rw [Array.getElem?_eq_getElem hlt] at h5 ⊢
      simp only [Option.map_some, Option.some.injEq] at h5 ⊢
      unfold entI kvI at h5
      injection h5 with h6 h7
    have hst : (Instr.keyThatStays (.int .i64 k) (.int .i64 k)).run P w = .ok (.int .i64 k) w := by
      rw [Instr.keyThatStays, show Instr.sameBits 10000 (.int .i64 k) (.int .i64 k) = true by simp [Instr.sameBits]]; rfl
    refine ⟨setBlock w M (.map (es.modify j fun e => { e with key := .int .i64 k, val := v }) clock), ?_, ⟨_, _, gs.set j (k, v), ChangeMaps.heap_setBlock_same h0 _, ?_, fun i => ?_⟩, ⟨rfl, rfl, rfl, by simp [setBlock], fun i _ hi => ChangeMaps.heap_setBlock_other h0 _ hi⟩⟩
    · simp only [Instr.mapUpdate, Sem.run_bind, run_underlying hT, Result.andThen_ok, MapKept.run_getObj_map h0, hc, find_run hK h1 k w, hg, hkey, Option.getD_some, hst, MapKept.run_setObj_map _ h0]
      rfl
    · rw [show (es.modify j fun e => { e with key := Value.int .i64 k, val := v }).toList = es.toList.modify j fun e => { e with key := .int .i64 k, val := v } by simp, List.map_set, ← h1]
      apply List.ext_getElem?
      intro i
      simp only [List.getElem?_map, List.getElem?_modify, List.getElem?_set, List.length_map, Array.length_toList, Array.getElem?_toList]
      by_cases e : j = i
      · subst e; rw [if_pos rfl, if_pos hlt, Array.getElem?_eq_getElem hlt]; simp [entI, kvI]
      · rw [if_neg e]; simp [e]
    · rw [gval_set i hg, h2]
end
end Go.Mtl
