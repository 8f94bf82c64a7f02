/- Any program: what a sort is given (SortK): a row in a block, how two of its elements are compared, how they are exchanged. To compare may make memory. -/
import Derived.Shelf.GgSortFunc.InsertionK
import Derived.Sort.WalkA
set_option linter.unusedVariables false
namespace Go.Mtl
open Go Go.RowKit
/-- Nothing that lay has turned but block b. -/
structure Bar (b : Nat) (w w' : World) : Prop where
  os : w'.os = w.os
  tape : w'.tape = w.tape
  output : w'.output = w.output
  size : w.heap.size ≤ w'.heap.size
  block : ∀ j, j < w.heap.size → j ≠ b → w'.heap[j]? = w.heap[j]?
section
variable {b : Nat} {w w1 w2 : World}
theorem Bar.refl (b : Nat) (w : World) : Bar b w w := ⟨rfl, rfl, rfl, Nat.le_refl _, fun _ _ _ => rfl⟩
theorem Bar.of_below (h : Below w.heap.size w w1) : Bar b w w1 := ⟨h.os, h.tape, h.output, h.size, fun k hk _ => h.block k hk⟩
theorem Bar.trans (h : Bar b w w1) (k : Bar b w1 w2) : Bar b w w2 :=
  ⟨k.os.trans h.os, k.tape.trans h.tape, k.output.trans h.output, Nat.le_trans h.size k.size, fun j hj hn => (k.block j (Nat.lt_of_lt_of_le hj h.size) hn).trans (h.block j hj hn)⟩
theorem Bar.next (h : Bar b w w1) (k : Below w1.heap.size w1 w2) : Bar b w w2 := h.trans (Bar.of_below k)
theorem Bar.drew (h : Bar b w w1) : Bar b w w1.drew := ⟨h.os, h.tape, h.output, h.size, h.block⟩
theorem Bar.heap (h : Bar b w w1) {j : Nat} {o : Obj} (hj : w.heap[j]? = some o) (hn : j ≠ b) : w1.heap[j]? = some o := (h.block j (Array.getElem?_eq_some_iff.1 hj).1 hn).trans hj
end
/-- What a sort of n elements is given: A W d: the row holds d. -/
structure SortK (P : Program) {α : Type} [Inhabited α] (A : World → Array α → Prop) (b m n : Nat) (lt : α → α → Bool) (g : Nat) (lb : Array Value) (sf : Nat) (sb : Array Value) : Prop where
  small : n < 4611686018427387904
  size : ∀ {W d}, A W d → d.size = n
  bm : b < m
  at_ : ∀ {W d}, A W d → m ≤ W.heap.size
  keep : ∀ {W d W'}, A W d → (∀ j, j < m → W'.heap[j]? = W.heap[j]?) → W.heap.size ≤ W'.heap.size → A W' d
  enters : ∀ args w, (callFunc g args).run P w = .ok (.enter g args) w
  less : ∀ {W d} (i j : Nat), A W d → i < n → j < n → Calls P g (#[.int .i64 i, .int .i64 j] ++ lb) W fun e w' => e = .returned (.bool (lt d[i]! d[j]!)) ∧ Below W.heap.size W w'
  swap : ∀ {W d} (i j : Nat), A W d → i < n → j < n → ∃ W', (callFunc sf (#[.int .i64 i, .int .i64 j] ++ sb)).run P W = .ok (.value (.tuple #[])) W' ∧ A W' (Sort.swp d i j) ∧ Bar b W W'
/-- What a walk of the sort keeps: the row holds d; the box x of the two functions; nothing else that lay when it began has turned. -/
structure SortB {α : Type} [Inhabited α] (A : World → Array α → Prop) (b : Nat) (lb sb : Array Value) (g sf : Nat) (t : TypeId) (We : World) (x : Nat) (W : World) (d : Array α) : Prop where
  row : A W d
  box : W.heap[x]? = some (.cells #[.func (.func g) #[] lb, .func (.func sf) #[] sb] t (0, 0))
  ne : x ≠ b
  bar : Bar b We W
section
variable {P : Program} {α : Type} [Inhabited α] {A : World → Array α → Prop} {b m n : Nat} {lt : α → α → Bool} {g : Nat} {lb : Array Value} {sf : Nat} {sb : Array Value} {t : TypeId} {We W W' : World} {x : Nat} {d : Array α}
theorem SortK.next (K : SortK P A b m n lt g lb sf sb) (h : A W d) (hb : Below W.heap.size W W') : A W' d := K.keep h (fun j hj => hb.block j (Nat.lt_of_lt_of_le hj (K.at_ h))) hb.size
/-- Another block turns, laid since. -/
theorem SortK.other (K : SortK P A b m n lt g lb sf sb) (h : A W d) {p : Nat} (hp : m ≤ p) (hb : Bar p W W') : A W' d :=
  K.keep h (fun j hj => hb.block j (Nat.lt_of_lt_of_le hj (K.at_ h)) (by omega)) hb.size
theorem SortB.start (K : SortK P A b m n lt g lb sf sb) (h : A W d) (t : TypeId) : SortB A b lb sb g sf t W W.heap.size (W.alloc (.cells #[.func (.func g) #[] lb, .func (.func sf) #[] sb] t)) d :=
  ⟨K.next h ((Below.refl _ W).alloc (Nat.le_refl _) _), heap_alloc_new W _, by have := K.at_ h; have := K.bm; omega, Bar.of_below ((Below.refl _ W).alloc (Nat.le_refl _) _)⟩
theorem SortB.next (H : SortB A b lb sb g sf t We x W d) (K : SortK P A b m n lt g lb sf sb) (hb : Below W.heap.size W W') : SortB A b lb sb g sf t We x W' d :=
  ⟨K.next H.row hb, (hb.block _ (Array.getElem?_eq_some_iff.1 H.box).1).trans H.box, H.ne, H.bar.next hb⟩
theorem SortB.turn (H : SortB A b lb sb g sf t We x W d) {d' : Array α} (ha : A W' d') (hb : Bar b W W') : SortB A b lb sb g sf t We x W' d' :=
  ⟨ha, hb.heap H.box H.ne, H.ne, H.bar.trans hb⟩
/-- A box of one cell, stored anew. -/
theorem one_set {W : World} {p : Nat} {v : Value} {t : TypeId} (v' : Value) (h : W.heap[p]? = some (.cells #[v] t (0, 0))) : (W.setCell ⟨p, 0, none⟩ v').heap[p]? = some (.cells #[v'] t (0, 0)) := by
  obtain ⟨hlt, hk⟩ := Array.getElem?_eq_some_iff.1 h
  show (W.heap.modify p _)[p]? = _
  rw [Array.getElem?_eq_getElem (by rw [Array.size_modify]; exact hlt), Array.getElem_modify_self, hk]
  rfl
theorem one_cell {W : World} {p : Nat} {v : Value} {t : TypeId} (h : W.heap[p]? = some (.cells #[v] t (0, 0))) : W.cell? ⟨p, 0, none⟩ = some v ∧ W.frozen? ⟨p, 0, none⟩ = false := by
  constructor <;> simp [World.cell?, World.frozen?, h]
theorem Bar.set (W : World) (p : Nat) (v : Value) : Bar p W (W.setCell ⟨p, 0, none⟩ v) := ⟨rfl, rfl, rfl, by simp [World.setCell], fun j _ hn => Below.heap_setCell _ _ _ _ hn⟩
theorem SortB.c0 (H : SortB A b lb sb g sf t We x W d) : W.cell? ⟨x, 0, none⟩ = some (.func (.func g) #[] lb) := by simp [World.cell?, H.box]
theorem SortB.c1 (H : SortB A b lb sb g sf t We x W d) : W.cell? ⟨x, 1, none⟩ = some (.func (.func sf) #[] sb) := by simp [World.cell?, H.box]
end
end Go.Mtl
