/- Any program: which blocks may have turned between two worlds; rows of the call's own: kept, a cell of them, one element more. -/
import Derived.Test.YtalclmfnalmphaaComB
import Derived.Maps.AppendAt
import Derived.Laws.OwnMore
set_option linter.unusedVariables false
namespace Go.Mtl
open Go.RowKit

/-- What may have turned between two worlds: the blocks of O alone; new ones may have come. -/
structure Only (O : Nat → Prop) (w w' : World) : Prop where
  os : w'.os = w.os
  tape : w'.tape = w.tape
  output : w'.output = w.output
  size : w.heap.size ≤ w'.heap.size
  block : ∀ k, k < w.heap.size → ¬ O k → w'.heap[k]? = w.heap[k]?
theorem Only.refl (O : Nat → Prop) (w : World) : Only O w w := ⟨rfl, rfl, rfl, Nat.le_refl _, fun _ _ _ => rfl⟩
theorem Only.of_below {O : Nat → Prop} {w w' : World} (h : Below w.heap.size w w') : Only O w w' := ⟨h.os, h.tape, h.output, h.size, fun k hk _ => h.block k hk⟩
theorem Only.trans {O O' : Nat → Prop} {a b c : World} (h : Only O a b) (k : Only O' b c) (hO : ∀ j, O' j → O j ∨ a.heap.size ≤ j) : Only O a c :=
  ⟨k.os.trans h.os, k.tape.trans h.tape, k.output.trans h.output, Nat.le_trans h.size k.size, fun j hj hn =>
    (k.block j (Nat.lt_of_lt_of_le hj h.size) (fun e => (hO j e).elim hn (fun g => by omega))).trans (h.block j hj hn)⟩
theorem Only.next {O : Nat → Prop} {a b c : World} (h : Only O a b) (hb : Below b.heap.size b c) : Only O a c := h.trans (O' := fun _ => False) (Only.of_below hb) (fun _ e => e.elim)
theorem Only.mono {O O' : Nat → Prop} {a b : World} (h : Only O a b) (hO : ∀ j, O j → O' j) : Only O' a b := ⟨h.os, h.tape, h.output, h.size, fun j hj hn => h.block j hj (fun e => hn (hO j e))⟩
theorem Only.below {O : Nat → Prop} {n : Nat} {w w' : World} (h : Only O w w') (hO : ∀ j, O j → n ≤ j) (hn : n ≤ w.heap.size) : Below n w w' :=
  ⟨h.os, h.tape, h.output, h.size, fun k hk => h.block k (by omega) (fun e => by have := hO k e; omega)⟩
theorem Only.setCell {O : Nat → Prop} {a w : World} (h : Only O a w) {p : Addr} (hp : O p.block ∨ a.heap.size ≤ p.block) (u : Value) : Only O a (w.setCell p u) :=
  h.trans (O' := fun j => j = p.block) ⟨rfl, rfl, rfl, by simp [World.setCell], fun k _ hn => Below.heap_setCell _ _ _ _ hn⟩ (fun j e => by subst e; exact hp)
theorem Only.alloc {O : Nat → Prop} {a w : World} (h : Only O a w) (o : Obj) : Only O a (w.alloc o) := h.next ((Below.refl _ w).alloc (Nat.le_refl _) o)
theorem Only.cell {O : Nat → Prop} {w w' : World} (h : Only O w w') {p : Addr} (hp : p.block < w.heap.size) (hn : ¬ O p.block) : w'.cell? p = w.cell? p := World.cell?_of_block (w := w) (h.block p.block hp hn)
theorem Blk.only {O : Nat → Prop} {w w' : World} {g : Nat} {cs : Array Value} {t : TypeId} (H : Blk w g cs t) (h : Only O w w') (hn : ¬ O g) : Blk w' g cs t := H.keep (h.block g H.lt hn)
theorem Only.grown {O : Nat → Prop} {w w' : World} {row : Option Nat} (h : w.grownBy w' row) (hO : ∀ k, row = some k → O k) : Only O w w' :=
  ⟨h.os, h.tape, h.output, h.size, fun k hk hn => h.block k hk fun e => hn (hO k e.symm)⟩

section
variable {w w' : World} {base e size n : Nat} {v : Value} {xs : List Value}
/-- A row of the call's own: what keeps it. -/
theorem row_keep (h : w.ownsRow base e size v n xs) (hk : ∀ g, v.ownBlock = some g → w'.heap[g]? = w.heap[g]?) : w'.ownsRow base e size v n xs := by
  refine ⟨h.1, ?_⟩
  rcases h.2 with ⟨rfl, h0⟩ | ⟨g, cap, cur, rfl, h2, h3, h4⟩
  · exact .inl ⟨rfl, h0⟩
  · exact .inr ⟨g, cap, cur, rfl, h2, (hk g rfl).trans h3, h4⟩
theorem row_form (h : w.ownsRow base e size v n xs) : ∃ A c, v = .slice A n c ∧ n ≤ c ∧ c ≤ 9223372036854775807 := by
  rcases h.2 with ⟨rfl, rfl⟩ | ⟨g, cap, cur, rfl, h2, h3, h4, h5, _⟩
  · exact ⟨none, 0, rfl, Nat.le_refl _, by omega⟩
  · exact ⟨_, cap, rfl, h4, by unfold maxLen at h5; omega⟩
/-- A cell of it. -/
theorem row_cell (h : w.ownsRow base e size v n xs) {j : Nat} {u : Value} (hu : xs[j]? = some u) :
    ∃ g c, v = .slice (some ⟨g, 0, none⟩) n c ∧ n ≤ c ∧ c ≤ 9223372036854775807 ∧ base ≤ g ∧ g < w.heap.size ∧ w.cell? ⟨g, j, none⟩ = some u ∧ w.frozen? ⟨g, j, none⟩ = false := by
  rcases h.2 with ⟨rfl, rfl⟩ | ⟨g, cap, cur, rfl, h2, h3, h4, h5, _⟩
  · have := (List.getElem?_eq_some_iff.1 hu).1
    have := h.1
    omega
  · refine ⟨g, cap, rfl, h4, by unfold maxLen at h5; omega, h2, (Array.getElem?_eq_some_iff.1 h3).1, ?_, frozen_of_row w g j cur e h3⟩
    have := h.cells (g := g) rfl j u hu
    have e : (Addr.add ⟨g, 0, none⟩ j) = ⟨g, j, none⟩ := by unfold Addr.add; split <;> simp_all
    rwa [e] at this
theorem row_base {b2 : Nat} (h : w.ownsRow base e size v n xs) (hb : ∀ g, v.ownBlock = some g → b2 ≤ g) : w.ownsRow b2 e size v n xs := by
  refine ⟨h.1, ?_⟩
  rcases h.2 with ⟨rfl, h0⟩ | ⟨g, cap, cur, rfl, h2, h4⟩
  · exact .inl ⟨rfl, h0⟩
  · exact .inr ⟨g, cap, cur, rfl, hb g rfl, h4⟩
end

theorem info_parts {P : Program} {t : TypeId} {z : Option Value} {a b : Nat} (h : (P.info? t).map (fun i => (i.zero, i.size, i.bytes)) = some (z, a, b)) : ∃ i, P.info? t = some i ∧ i.zero = z ∧ i.size = a ∧ i.bytes = b := by
  cases hi : P.info? t with
  | none => rw [hi] at h; cases h
  | some i => rw [hi] at h; simp at h; exact ⟨i, rfl, h.1, h.2.1, h.2.2⟩

/-- 'append(list, x)': list a row of the call's own; the one element, of any number of cells, has just been laid. -/
theorem wpList_push {P : Program} {w : World} {ops : Array Oper} {rest : List Oper} {o : Oper} {a : Act} {Q : Exit → Act → World → Prop} (n1 : Nat) (hgd : o.guard = none) (s x : Operand) (t e : TypeId)
    (ho : o.op = .call { callee := .builtin .append, args := #[s, x], argTypes := #[t, t] })
    (ht : P.underlying t = some (.slice e)) (z : Value) (size bytes : Nat) (hinfo : (P.info? e).map (fun i => (i.zero, i.size, i.bytes)) = some (some z, size, bytes)) (hzs : z.cells.size = size) (hsz : 0 < size) (hby : bytes ≤ 64)
    (v : Value) (n : Nat) (xs : List Value) (hs : a.eval s = v) (hown : w.ownsRow 0 e size v n xs)
    (us : List Value) (hus : us.length = size) (h1 : ∀ u ∈ us, u.oneCell' = true) (hx : a.eval x = .slice (some ⟨w.heap.size, 0, none⟩) 1 1) (hn1 : n + 1 = n1) (hn : n ≤ 1000000000000)
    (h : ∀ A' c' w', Hid (w'.ownsRow 0 e size (.slice A' n1 c') n1 (xs ++ us)) → Hid (w.grownBy w' v.ownBlock) → Hid ((Value.slice A' n1 c').ownBlock = v.ownBlock ∨ ∃ g, (Value.slice A' n1 c').ownBlock = some g ∧ w.heap.size ≤ g ∧ g < w'.heap.size) → wpList P ops Q rest (a.put o.dst (.slice A' n1 c')) w') :
    wpList P ops Q (o :: rest) a (w.alloc (.cells us.toArray e)) := by
  subst hn1
  obtain ⟨i, hi, hz0, hz1, hz2⟩ := info_parts hinfo
  refine wpList_append_own_at (P := P) (w.alloc (.cells us.toArray e)) hgd s x t ho 0 e i z size bytes ht hi hz0 hz1 hz2 hzs hsz v n xs hs (hown.alloc _)
    ⟨w.heap.size, 0, none⟩ 1 1 us hx (by rw [hus, Nat.one_mul]) ?_ h1 (by unfold maxLen; omega) ?_ (Nat.zero_le _) ?_
  · intro j u hj
    have e1 : (Addr.add ⟨w.heap.size, 0, none⟩ j) = ⟨w.heap.size, j, none⟩ := by unfold Addr.add; split <;> simp_all
    rw [e1, cell_of_row _ _ j _ e (0, 0) (heap_alloc_new w _), List.getElem?_toArray, hj]
  · have : (n + 1) * bytes ≤ 1000000000001 * 64 := Nat.mul_le_mul (by omega) hby
    omega
  · intro v' w' g1 g2 _ g4
    have hg : w.grownBy w' v.ownBlock := (World.grownBy_alloc w _ _).trans g2
    obtain ⟨A', c', rfl, -, -⟩ := row_form g1
    refine h A' c' w' g1 hg (show _ ∨ _ from ?_)
    rcases g4 with g4 | g4
    · exact .inl g4
    · refine .inr ⟨_, g4, by rw [World.size_alloc]; omega, (g1.lt _ g4).2⟩
end Go.Mtl
