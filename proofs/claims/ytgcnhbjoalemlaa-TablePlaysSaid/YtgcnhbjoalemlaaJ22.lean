/- Several texts of this proof in one file, each in its own namespace. -/
import Derived.Test.YtgcnhbjoalemlaaComO
import Derived.StillTailTactics
import Derived.IntWalk
import Derived.Laws.CopyOwn
import Derived.ChangeSlices
import Derived.Test.YtgcnhbjoalemlaaJ8
import Derived.Test.YtgcnhbjoalemlaaJ5
/- More common words, over any program: a region that reads and calls quietly, and then stores; a contract that leaves the world alone, as such a region asks for it. -/
set_option linter.unusedVariables false
namespace Go.Mtl
open Go.RowKit

/-- 'go_still_tail', the world behind the draw under its name. -/
theorem region_still_tail {P : Program} {id : Nat} {Q : Exit → Act → World → Prop} {a : Act} {w : World} {l : List Oper} (n : Nat) (hm : P.follows .mixedOrders = true) (hB : Region.lexTailB .any l.toArray n = true)
    (w1 : World) (hw : w1 = w.drew) (h : wpStill P l.toArray w1 (fun a' => wpList P l.toArray Q (l.drop n) a' w1) (l.take n) a) : (Code.region id l.toArray true).wp P Q a w := by
  subst hw
  exact wp_region_still_tail n hm hB h

section
variable {P : Program} {w : World} {o : Oper} {a : Act} {K : Act → World → Prop} {Q : Exit → Act → World → Prop}
end

/-- cs laid over l from place i on. -/
def over (l : List UInt8) (i : Nat) (cs : List UInt8) : List UInt8 := l.take i ++ (cs ++ l.drop (i + cs.length))
section
variable {P : Program} {w : World} {o : Oper} {a : Act} {K : Act → World → Prop} {Q : Exit → Act → World → Prop}
end

/-- An arm that is meant for the operation that writes slot k, and for no other. -/
theorem at_slot (k : Nat) {P : Program} {w : World} {ops : Array Oper} {rest : List Oper} {a : Act} {Q : Exit → Act → World → Prop} {op : Op} {ty : TypeId} {pos : String} {aft : Array Edge} {gd : Option (Nat × Bool)}
    (h : wpList P ops Q (⟨some k, op, ty, pos, aft, gd⟩ :: rest) a w) : wpList P ops Q (⟨some k, op, ty, pos, aft, gd⟩ :: rest) a w := h

end Go.Mtl
/- More common words, over any program: append onto a row of the call's own, the new length under a name. -/
set_option linter.unusedVariables false
namespace Go.Mtl
open Go.RowKit
section
variable {P : Program} {w : World} {o : Oper} {a : Act} {K : Act → World → Prop} {Q : Exit → Act → World → Prop}
end
end Go.Mtl
/- More common words, over any program: append onto a row of the call's own, what is new handed on hidden, the frame with it. -/
set_option linter.unusedVariables false
namespace Go.Mtl
open Go.RowKit
section
variable {P : Program} {w : World} {o : Oper} {a : Act} {Q : Exit → Act → World → Prop}
end
end Go.Mtl
/- Any program: a slice of integers of one kind that came in; a row of integers of the call's own, and an append of one to it. -/
set_option linter.unusedVariables false
namespace Go.Mtl
open Go.ChangeShapes Go.RowKit

/-- The slice at A, n elements long, reads as the numbers zs of kind k; where it is not empty it lies below block B. -/
structure Ints (k : IntKind) (w : World) (B : Nat) (A : Option Addr) (n : Nat) (zs : List Int) : Prop where
  len : zs.length = n
  at_ : 0 < n → ∃ b off, A = some ⟨b, off, none⟩ ∧ b < B ∧ ∀ j, j < n → w.cell? ⟨b, off + j, none⟩ = some (.int k (zs.getD j 0))
  fit : ∀ z ∈ zs, (Lit.int k z).wf = true
section
variable {k : IntKind} {w w' : World} {B B' n : Nat} {A : Option Addr} {zs : List Int}
theorem Ints.keep (h : Ints k w B A n zs) (hk : ∀ p : Addr, p.block < B → w'.cell? p = w.cell? p) : Ints k w' B A n zs :=
  ⟨h.len, fun hn => by
    obtain ⟨b, off, e, hb, hc⟩ := h.at_ hn
    exact ⟨b, off, e, hb, fun j hj => (hk _ hb).trans (hc j hj)⟩, h.fit⟩
theorem Ints.below (h : Ints k w B A n zs) (hb : Below B w w') : Ints k w' B A n zs := h.keep fun _ hp => hb.cell hp
theorem Ints.empty (k : IntKind) (w : World) (B : Nat) (A : Option Addr) : Ints k w B A 0 [] := ⟨rfl, fun h => absurd h (by omega), fun _ h => by cases h⟩
theorem Ints.get (h : Ints k w B A n zs) {j : Nat} (hj : j < n) : (Lit.int k (zs.getD j 0)).wf = true := by
  have hl := h.len
  have e : zs.getD j 0 = zs[j] := by simp [List.getD, show j < zs.length by omega]
  rw [e]
  exact h.fit _ (List.getElem_mem (by omega))
end

/-- Numbers as values. -/
def ivs (k : IntKind) (zs : List Int) : List Value := zs.map (.int k)
end Go.Mtl
/- Layer 19: a memory's three rows in their blocks, the program's and the reference's alike. Over any program. -/
set_option linter.unusedVariables false
namespace Go.Mtl
open Go.RowKit
open Go.MemM (Ac)

/-- Accesses as the cells of a row. -/
def avs (ls : List Ac) : List Value := ls.flatMap fun a => [.int .i64 a.t, .int .i64 a.k, .int .i64 a.p]
theorem avs_append (xs ys : List Ac) : avs (xs ++ ys) = avs xs ++ avs ys := by simp [avs]
theorem avs_at : ∀ (ls : List Ac) (i : Nat) (a : Ac), ls[i]? = some a → (avs ls)[i * 3]? = some (.int .i64 a.t) ∧ (avs ls)[i * 3 + 1]? = some (.int .i64 a.k) ∧ (avs ls)[i * 3 + 2]? = some (.int .i64 a.p) := by
  intro ls
  induction ls with
  | nil => intro i a h; simp at h
  | cons b ls ih =>
    intro i a h
    cases i with
    | zero => simp at h; subst h; simp [avs]
    | succ i =>
      have := ih i a (by simpa using h)
      have e : ∀ j, (avs (b :: ls))[(i + 1) * 3 + j]? = (avs ls)[i * 3 + j]? := fun j => by
        show ([_, _, _] ++ avs ls)[_]? = _
        rw [List.getElem?_append_right (by simp; omega)]
        congr 1
        simp; omega
      exact ⟨(e 0).trans this.1, (e 1).trans this.2.1, (e 2).trans this.2.2⟩

/-- The types of a memory: of itself, of a word, of a mutex, of an access; the kind of a mutex. -/
structure Mty where
  t : TypeId
  tw : TypeId
  th : TypeId
  ta : TypeId
  k : IntKind
/-- What lies in the blocks of a memory: its own block B, its words, its mutexes, its log; O are the blocks that are its own. -/
structure Mm (T : Mty) (w : World) (O : Nat → Prop) (B : Nat) (vw vh vl : Value) (ws hs : List Int) (ls : List Ac) : Prop where
  blk : Blk w B #[vw, vh, vl] T.t
  wr : w.ownsRow 0 T.tw 1 vw ws.length (ivs .u64 ws)
  hr : w.ownsRow 0 T.th 1 vh hs.length (ivs T.k hs)
  lr : w.ownsRow 0 T.ta 3 vl ls.length (avs ls)
  wo : ∀ g, vw.ownBlock = some g → O g ∧ g ≠ B
  ho : ∀ g, vh.ownBlock = some g → O g ∧ g ≠ B ∧ vw.ownBlock ≠ some g
  lo : ∀ g, vl.ownBlock = some g → O g ∧ g ≠ B ∧ vw.ownBlock ≠ some g ∧ vh.ownBlock ≠ some g
  ob : O B
  lt : ∀ j, O j → j < w.heap.size
section
variable {T : Mty} {w w' : World} {O O' : Nat → Prop} {B : Nat} {vw vh vl : Value} {ws hs : List Int} {ls : List Ac}
theorem Mm.keep (H : Mm T w O B vw vh vl ws hs ls) (hs' : w.heap.size ≤ w'.heap.size) (h : ∀ k, O k → w'.heap[k]? = w.heap[k]?) : Mm T w' O B vw vh vl ws hs ls where
  blk := H.blk.keep (h _ H.ob)
  wr := row_keep H.wr fun g e => h g (H.wo g e).1
  hr := row_keep H.hr fun g e => h g (H.ho g e).1
  lr := row_keep H.lr fun g e => h g (H.lo g e).1
  wo := H.wo
  ho := H.ho
  lo := H.lo
  ob := H.ob
  lt := fun j hj => Nat.lt_of_lt_of_le (H.lt j hj) hs'
theorem Mm.far (H : Mm T w O B vw vh vl ws hs ls) (h : Only O' w w') (hd : ∀ j, O j → ¬ O' j) : Mm T w' O B vw vh vl ws hs ls := H.keep h.size fun k hk => h.block k (H.lt k hk) (hd k hk)
theorem Mm.next (H : Mm T w O B vw vh vl ws hs ls) (hb : Below w.heap.size w w') : Mm T w' O B vw vh vl ws hs ls := H.far (O' := fun _ => False) (Only.of_below hb) (fun _ _ e => e)
theorem Mm.drew (H : Mm T w O B vw vh vl ws hs ls) : Mm T w.drew O B vw vh vl ws hs ls := H.next (Below.refl _ w).drew
theorem Mm.alloc (H : Mm T w O B vw vh vl ws hs ls) (o : Obj) : Mm T (w.alloc o) O B vw vh vl ws hs ls := H.next ((Below.refl _ w).alloc (Nat.le_refl _) o)
theorem Mm.more (H : Mm T w O B vw vh vl ws hs ls) (h : ∀ j, O j → O' j) (hl : ∀ j, O' j → j < w.heap.size) : Mm T w O' B vw vh vl ws hs ls :=
  ⟨H.blk, H.wr, H.hr, H.lr, fun g e => ⟨h g (H.wo g e).1, (H.wo g e).2⟩, fun g e => ⟨h g (H.ho g e).1, (H.ho g e).2⟩, fun g e => ⟨h g (H.lo g e).1, (H.lo g e).2⟩, h _ H.ob, hl⟩
/-- A word, a mutex. -/
theorem Mm.word (H : Mm T w O B vw vh vl ws hs ls) {j : Nat} (hj : j < ws.length) :
    ∃ g c, vw = .slice (some ⟨g, 0, none⟩) ws.length c ∧ ws.length ≤ c ∧ c ≤ 9223372036854775807 ∧ O g ∧ w.cell? ⟨g, j, none⟩ = some (.int .u64 (ws.getD j 0)) ∧ w.frozen? ⟨g, j, none⟩ = false := by
  obtain ⟨g, c, e, h1, h2, _, _, h5, h6⟩ := row_cell H.wr (j := j) (u := .int .u64 (ws.getD j 0)) (by simp [ivs, List.getD, hj])
  exact ⟨g, c, e, h1, h2, (H.wo g (by rw [e]; rfl)).1, h5, h6⟩
theorem Mm.hold (H : Mm T w O B vw vh vl ws hs ls) {j : Nat} (hj : j < hs.length) :
    ∃ g c, vh = .slice (some ⟨g, 0, none⟩) hs.length c ∧ hs.length ≤ c ∧ c ≤ 9223372036854775807 ∧ O g ∧ w.cell? ⟨g, j, none⟩ = some (.int T.k (hs.getD j 0)) ∧ w.frozen? ⟨g, j, none⟩ = false := by
  obtain ⟨g, c, e, h1, h2, _, _, h5, h6⟩ := row_cell H.hr (j := j) (u := .int T.k (hs.getD j 0)) (by simp [ivs, List.getD, hj])
  exact ⟨g, c, e, h1, h2, (H.ho g (by rw [e]; rfl)).1, h5, h6⟩
theorem Mm.setH (H : Mm T w O B vw vh vl ws hs ls) {g c : Nat} (e : vh = .slice (some ⟨g, 0, none⟩) hs.length c) (j : Nat) (x : Int) :
    Mm T (w.setCell ⟨g, j, none⟩ (.int T.k x)) O B vw vh vl ws (hs.set j x) ls := by
  have ho := (H.ho g (by rw [e]; rfl))
  have hk : ∀ k, k ≠ g → (w.setCell ⟨g, j, none⟩ (.int T.k x)).heap[k]? = w.heap[k]? := fun k hk => Below.heap_setCell _ _ _ _ hk
  refine ⟨H.blk.keep (hk _ (fun e => ho.2.1 e.symm)), row_keep H.wr fun k ek => hk k (fun e2 => ho.2.2 (by subst e2; exact ek)), ?_, row_keep H.lr fun k ek => hk k (fun e2 => (H.lo k ek).2.2.2 (by subst e2; rw [e]; rfl)), H.wo, H.ho, H.lo, H.ob, fun j hj => by have := H.lt j hj; simpa [World.setCell] using this⟩
  have := H.hr
  rw [e] at this ⊢
  rw [List.length_set]
  rw [show ivs T.k (hs.set j x) = (ivs T.k hs).set j (.int T.k x) by simp [ivs, List.map_set]]
  exact (this.stored j _).1
/-- The blocks of before, and what has come since. -/
abbrev plus (O : Nat → Prop) (w w' : World) (j : Nat) : Prop := O j ∨ (w.heap.size ≤ j ∧ j < w'.heap.size)
/-- An access more: the row turned, and its slice stored. -/
theorem Mm.push (H : Mm T w O B vw vh vl ws hs ls) {v : Value} {a : Ac} (hr : w'.ownsRow 0 T.ta 3 v (ls.length + 1) (avs ls ++ [.int .i64 a.t, .int .i64 a.k, .int .i64 a.p])) (hg : w.grownBy w' vl.ownBlock)
    (hb : v.ownBlock = vl.ownBlock ∨ ∃ g, v.ownBlock = some g ∧ w.heap.size ≤ g ∧ g < w'.heap.size) : Mm T (w'.setCell ⟨B, 2, none⟩ v) (plus O w w') B vw vh v ws hs (ls ++ [a]) ∧ Only O w (w'.setCell ⟨B, 2, none⟩ v) := by
  have hlo : ∀ k, vl.ownBlock = some k → O k := fun k e => (H.lo k e).1
  have hB : w'.heap[B]? = w.heap[B]? := hg.block B (H.lt _ H.ob) fun e => (H.lo B e.symm).2.1 rfl
  have hk : ∀ k, k ≠ B → (w'.setCell ⟨B, 2, none⟩ v).heap[k]? = w'.heap[k]? := fun k hk => Below.heap_setCell _ _ _ _ hk
  have hsz : (w'.setCell ⟨B, 2, none⟩ v).heap.size = w'.heap.size := by simp [World.setCell]
  have hBlt := H.lt _ H.ob
  have hnew : ∀ g, v.ownBlock = some g → (plus O w w' g ∧ g ≠ B ∧ vw.ownBlock ≠ some g ∧ vh.ownBlock ≠ some g) := by
    intro g e
    rcases hb with hb | ⟨g2, e2, h1, h2⟩
    · obtain ⟨a1, a2, a3, a4⟩ := H.lo g (hb ▸ e)
      exact ⟨.inl a1, a2, a3, a4⟩
    · rw [e] at e2
      obtain rfl := Option.some.inj e2
      exact ⟨.inr ⟨h1, h2⟩, by omega, fun e3 => by have := H.lt _ (H.wo g e3).1; omega, fun e3 => by have := H.lt _ (H.ho g e3).1; omega⟩
  refine ⟨⟨(H.blk.keep hB).set' 2 v rfl, ?_, ?_, ?_, fun g e => ⟨.inl (H.wo g e).1, (H.wo g e).2⟩, fun g e => ⟨.inl (H.ho g e).1, (H.ho g e).2⟩, hnew, .inl H.ob, ?_⟩, ?_⟩
  · refine row_keep H.wr fun g e => (hk g (H.wo g e).2).trans (hg.block g (H.lt _ (H.wo g e).1) fun e2 => (H.lo g e2.symm).2.2.1 e)
  · refine row_keep H.hr fun g e => (hk g (H.ho g e).2.1).trans (hg.block g (H.lt _ (H.ho g e).1) fun e2 => (H.lo g e2.symm).2.2.2 e)
  · rw [List.length_append, avs_append]
    exact row_keep hr fun g e => hk g (hnew g e).2.1
  · intro j hj
    rw [hsz]
    exact hj.elim (fun h => Nat.lt_of_lt_of_le (H.lt j h) hg.size) (fun h => h.2)
  · exact (Only.grown hg hlo).setCell (.inl H.ob) v
/-- Its own block, after the log's or the words' row has turned. -/
theorem Mm.grownL (H : Mm T w O B vw vh vl ws hs ls) (hg : w.grownBy w' vl.ownBlock) : Blk w' B #[vw, vh, vl] T.t := H.blk.keep (hg.block B (H.lt _ H.ob) fun e => (H.lo B e.symm).2.1 rfl)
theorem Mm.len1 (H : Mm T w O B vw vh vl ws hs ls) : ∃ A c, vh = .slice A hs.length c ∧ hs.length ≤ c ∧ c ≤ 9223372036854775807 := row_form H.hr
theorem Mm.len2 (H : Mm T w O B vw vh vl ws hs ls) : ∃ A c, vl = .slice A ls.length c ∧ ls.length ≤ c ∧ c ≤ 9223372036854775807 := row_form H.lr
end
end Go.Mtl
