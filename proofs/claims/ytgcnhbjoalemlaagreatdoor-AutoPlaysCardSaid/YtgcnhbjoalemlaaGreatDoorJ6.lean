/- Several texts of this proof in one file, each in its own namespace. -/
import Derived.WalkKit
import Derived.ProofKit
import Derived.Below
import Derived.OpenShut
import Derived.Deep.AppendLies
import Derived.Deep.Draws
import Derived.Lib.Hide
import Derived.Laws.Rows
import Derived.Maps.AppendAt
import Derived.Laws.OwnMore
/- Common words of these proofs, over any program: slices of bytes that read as lists, what keeps them, and their text. -/
set_option linter.unusedVariables false
namespace Go.Mtl
open Go.RowKit

/-- The byte at place i. -/
def byt (bs : List UInt8) (i : Nat) : Nat := (bs.getD i 0).toNat
theorem byt_drop (bs : List UInt8) (i j : Nat) : byt (bs.drop i) j = byt bs (i + j) := by simp [byt, List.getD, List.getElem?_drop]
theorem byt_take (bs : List UInt8) (m j : Nat) (h : j < m) : byt (bs.take m) j = byt bs j := by simp [byt, List.getD, h]

/-- The slice at A, n elements long, reads as the bytes bs; where it is not empty it lies below block B. -/
structure Bts (w : World) (B : Nat) (A : Option Addr) (n : Nat) (bs : List UInt8) : Prop where
  len : bs.length = n
  at_ : 0 < n → ∃ b off, A = some ⟨b, off, none⟩ ∧ b < B ∧ ∀ j, j < n → w.cell? ⟨b, off + j, none⟩ = some (.int .u8 (byt bs j : Int))

section
variable {w w' : World} {B B' n : Nat} {A : Option Addr} {bs : List UInt8}

theorem Bts.empty (w : World) (B : Nat) (A : Option Addr) : Bts w B A 0 [] := ⟨rfl, fun h => absurd h (by omega)⟩
theorem Bts.keep (h : Bts w B A n bs) (hk : ∀ p : Addr, p.block < B → w'.cell? p = w.cell? p) : Bts w' B A n bs :=
  ⟨h.len, fun hn => by
    obtain ⟨b, off, e, hb, hc⟩ := h.at_ hn
    exact ⟨b, off, e, hb, fun j hj => (hk _ hb).trans (hc j hj)⟩⟩
theorem Bts.more (h : Bts w B A n bs) (hB : B ≤ B') : Bts w B' A n bs :=
  ⟨h.len, fun hn => by
    obtain ⟨b, off, e, hb, hc⟩ := h.at_ hn
    exact ⟨b, off, e, by omega, hc⟩⟩
theorem Bts.below (h : Bts w B A n bs) (hb : Below B w w') : Bts w' B A n bs := h.keep fun _ hp => hb.cell hp
theorem Bts.drewN (h : Bts w B A n bs) (k : Nat) : Bts (w.drewN k) B A n bs := ⟨h.len, h.at_⟩
theorem Bts.drew (h : Bts w B A n bs) : Bts w.drew B A n bs := ⟨h.len, h.at_⟩
theorem Bts.alloc (h : Bts w B A n bs) (hB : B ≤ w.heap.size) (o : Obj) : Bts (w.alloc o) B A n bs := h.keep fun p hp => World.cell?_alloc_lt w o p (by omega)
theorem Bts.setCell (h : Bts w B A n bs) {p : Addr} (hB : B ≤ p.block) (u : Value) : Bts (w.setCell p u) B A n bs :=
  h.keep fun q hq => World.cell?_setCell_other w p q u (fun e => by subst e; omega)
/-- A cut out of it. -/
theorem Bts.cut (h : Bts w B A n bs) (i m : Nat) (hm : 0 < m) (hi : i + m ≤ n) : ∃ b off, A = some ⟨b, off, none⟩ ∧ Bts w B (some ⟨b, off + i, none⟩) m ((bs.drop i).take m) := by
  obtain ⟨b, off, e, hb, hc⟩ := h.at_ (by omega)
  have hl := h.len
  refine ⟨b, off, e, by simp; omega, fun _ => ⟨b, off + i, rfl, hb, fun j hj => ?_⟩⟩
  rw [Nat.add_assoc, hc (i + j) (by omega)]
  rw [byt_take _ _ _ hj, byt_drop]

/-- The text of the bytes. -/
def textOf (bs : List UInt8) : ByteArray := ⟨bs.toArray⟩
theorem foldl_push (ns : List UInt8) : ∀ s : ByteArray, (ns.map fun c => (c.toNat : Int)).foldl (fun r n => r.push (UInt8.ofNat n.toNat)) s = ⟨s.data ++ ns.toArray⟩ := by
  induction ns with
  | nil => intro s; simp
  | cons c ns ih =>
    intro s
    rw [List.map_cons, List.foldl_cons, ih]
    simp [ByteArray.push]
theorem run_text {P : Program} (src dst e : TypeId) (hs : P.underlying src = some (.slice e)) (he : P.underlying e = some (.int .u8)) (hd : P.underlying dst = some .string)
    {c : Nat} (h : Bts w B A n bs) : (convert src dst (.slice A n c)).run P w = .ok (.string (textOf bs)) w := by
  rw [run_convert_bytes_string w src dst e A n c hs he hd]
  rcases Nat.eq_zero_or_pos n with h0 | h0
  · subst h0
    have : bs = [] := List.eq_nil_of_length_eq_zero h.len
    subst this
    rcases A with _ | a
    · simp [Conv.bytesToString, Sem.run_pure]; rfl
    · have hl : (loadCells a 0).run P w = .ok (([] : List Int).map (Value.int .u8)).toArray w := by simp [loadCells, loadCellsFrom, Sem.run_pure]
      rw [run_bytesToString w a 0 c [] hl]; rfl
  · obtain ⟨b, off, rfl, _, hc⟩ := h.at_ h0
    have hl : (loadCells ⟨b, off, none⟩ n).run P w = .ok ((bs.map fun c => (c.toNat : Int)).map (Value.int .u8)).toArray w := by
      have hlen := h.len
      subst hlen
      have := run_loadCells_list (P := P) (w := w) ⟨b, off, none⟩ ((bs.map fun c => (c.toNat : Int)).map (Value.int .u8)) (by
        intro j v hv
        have hj : j < bs.length := by have := (List.getElem?_eq_some_iff.1 hv).1; simpa using this
        have e : (Addr.add ⟨b, off, none⟩ j) = ⟨b, off + j, none⟩ := by unfold Addr.add; split <;> simp_all
        rw [e, hc j hj]
        rw [← hv]
        simp [byt, List.getD, hj])
      simpa using this
    rw [run_bytesToString w _ n c _ hl, foldl_push]
    simp [textOf]
end

/-- Bytes as the cells of a row. -/
def bvs (bs : List UInt8) : List Value := bs.map fun c => .int .u8 (c.toNat : Int)
theorem bvs_len (bs : List UInt8) : (bvs bs).length = bs.length := by simp [bvs]
theorem bvs_at (bs : List UInt8) (j : Nat) (h : j < bs.length) : (bvs bs)[j]? = some (.int .u8 (byt bs j : Int)) := by simp [bvs, byt, List.getD, h]
theorem bvs_snoc (bs : List UInt8) (c : UInt8) : bvs bs ++ [.int .u8 (c.toNat : Int)] = bvs (bs ++ [c]) := by simp [bvs]
/-- Of an owned row of bytes. -/
theorem bts_of_own {w : World} {base e : Nat} {v : Value} {n c : Nat} {A : Option Addr} {bs : List UInt8} (h : w.ownsRow base e 1 v n (bvs bs)) (hv : v = .slice A n c) : Bts w w.heap.size A n bs := by
  subst hv
  have hl : bs.length = n := by have := h.1; rw [bvs_len] at this; omega
  refine ⟨hl, fun hn => ?_⟩
  obtain ⟨g, cap, hv, _, hlt⟩ := h.form hn
  have hA : A = some ⟨g, 0, none⟩ := by injection hv
  subst hA
  refine ⟨g, 0, rfl, hlt, fun j hj => ?_⟩
  have e : (Addr.add ⟨g, 0, none⟩ j) = ⟨g, 0 + j, none⟩ := by unfold Addr.add; split <;> simp_all
  have := h.cells (g := g) rfl j _ (bvs_at bs j (by omega))
  rw [← e]; exact this

/-- 'out = append(out, byte(..))', out a row of the call's own: the literal of one byte has just been made. -/
theorem wpList_append_byte {P : Program} (w0 : World) {ops : Array Oper} {rest : List Oper} {o : Oper} {a : Act} {Q : Exit → Act → World → Prop} (hgd : o.guard = none) (s x : Operand) (t : TypeId)
    (ho : o.op = .call { callee := .builtin .append, args := #[s, x], argTypes := #[t, t] })
    (base : Nat) (e : TypeId) (i : TypeInfo) (ht : P.underlying t = some (.slice e)) (hi : P.info? e = some i) (hz : i.zero = some (.int .u8 0)) (hsize : i.size = 1) (hby : i.bytes = 1)
    (v : Value) (n : Nat) (xs : List Value) (c : Int) (hs : a.eval s = v) (hown : w0.ownsRow base e 1 v n xs)
    (hx : a.eval x = .slice (some ⟨w0.heap.size, 0, none⟩) 1 1) (hn : n ≤ 1073741824) (hbase : base ≤ w0.heap.size)
    (h : ∀ v' w', w'.ownsRow base e 1 v' (n + 1) (xs ++ [.int .u8 c]) → (w0.alloc (.cells #[.int .u8 c] e)).grownBy w' v.ownBlock → wpList P ops Q rest (a.put o.dst v') w') :
    wpList P ops Q (o :: rest) a (w0.alloc (.cells #[.int .u8 c] e)) := by
  refine wpList_append_own _ hgd s x t ho base e i (.int .u8 0) 1 1 ht hi hz hsize hby rfl (by omega) v n xs hs (hown.alloc _) ⟨w0.heap.size, 0, none⟩ 1 1 [.int .u8 c] hx rfl ?_ ?_ (by unfold maxLen; omega) (by omega) (by simp; omega)
    (fun v' w' h1 h2 _ => h v' w' h1 h2)
  · intro j u hu
    have hj : j = 0 := by have := (List.getElem?_eq_some_iff.1 hu).1; simpa using this
    subst hj
    simp at hu
    subst hu
    simp [Addr.add]
  · intro u hu
    simp at hu
    subst hu
    rfl

end Go.Mtl
/- Blocks that hold a struct, whatever its cells: what they read, what keeps them, what a store makes of them. Over any program. -/
set_option linter.unusedVariables false
namespace Go.Mtl
open Go.RowKit
/-- Block g holds the cells cs of a value of type t. -/
def Blk (w : World) (g : Nat) (cs : Array Value) (t : TypeId) : Prop := w.heap[g]? = some (.cells cs t (0, 0))
section
variable {w w' : World} {g : Nat} {cs : Array Value} {t : TypeId}
theorem Blk.box (w : World) (cs : Array Value) (t : TypeId) : Blk (w.alloc (.cells cs t)) w.heap.size cs t := heap_alloc_new w _
theorem Blk.lt (H : Blk w g cs t) : g < w.heap.size := by
  rcases Nat.lt_or_ge g w.heap.size with hlt | hge
  · exact hlt
  · unfold Blk at H; rw [Array.getElem?_eq_none hge] at H; cases H
theorem Blk.keep (H : Blk w g cs t) (hk : w'.heap[g]? = w.heap[g]?) : Blk w' g cs t := hk.trans H
theorem Blk.next (H : Blk w g cs t) (hb : Below w.heap.size w w') : Blk w' g cs t := H.keep (hb.block g H.lt)
theorem Blk.below {B : Nat} (H : Blk w g cs t) (hb : Below B w w') (hg : g < B) : Blk w' g cs t := H.keep (hb.block g hg)
theorem Blk.alloc (H : Blk w g cs t) (o : Obj) : Blk (w.alloc o) g cs t := H.next ((Below.refl _ _).alloc (Nat.le_refl _) o)
theorem Blk.drewN (H : Blk w g cs t) (k : Nat) : Blk (w.drewN k) g cs t := H
theorem Blk.drew (H : Blk w g cs t) : Blk w.drew g cs t := H
theorem Blk.other (H : Blk w g cs t) (k i : Nat) (hk : g ≠ k) (v : Value) : Blk (w.setCell ⟨k, i, none⟩ v) g cs t := H.keep (Below.heap_setCell _ _ _ _ hk)
theorem Blk.cell (H : Blk w g cs t) (i : Nat) (v : Value) (h : cs[i]? = some v) : w.cell? ⟨g, i, none⟩ = some v := (cell_of_row w g i _ _ _ H).trans h
theorem Blk.frozen (H : Blk w g cs t) (i : Nat) : w.frozen? ⟨g, i, none⟩ = false := frozen_of_row w g i _ _ H
theorem Blk.set (H : Blk w g cs t) (i : Nat) (v : Value) : Blk (w.setCell ⟨g, i, none⟩ v) g (cs.setIfInBounds i v) t := heap_setCell_same w g i _ _ v H
theorem Blk.set' (H : Blk w g cs t) (i : Nat) (v : Value) {cs' : Array Value} (h : cs.setIfInBounds i v = cs') : Blk (w.setCell ⟨g, i, none⟩ v) g cs' t := h ▸ H.set i v
/-- The block behind the next one. -/
theorem Blk.box1 (w : World) (o : Obj) (cs : Array Value) (t : TypeId) : Blk ((w.alloc o).alloc (.cells cs t)) (w.heap.size + 1) cs t := by
  have := Blk.box (w.alloc o) cs t
  rwa [World.size_alloc] at this
theorem Blk.box2 (w : World) (o o2 : Obj) (cs : Array Value) (t : TypeId) : Blk (((w.alloc o).alloc o2).alloc (.cells cs t)) (w.heap.size + 2) cs t := by
  have := Blk.box ((w.alloc o).alloc o2) cs t
  rwa [World.size_alloc, World.size_alloc] at this
theorem _root_.Go.RowKit.Below.drews {B : Nat} {w w' : World} (hb : Below B w w') (n : Nat) : Below B w (w'.drewN n) := hb.trans ⟨rfl, rfl, rfl, Nat.le_refl _, fun _ _ => rfl⟩
end
end Go.Mtl
/- Any program: which blocks may have turned between two worlds; rows of the call's own: kept, a cell of them, one element more. -/
set_option linter.unusedVariables false
namespace Go.Mtl
open Go.RowKit

/-- What may have turned between two worlds: the blocks of O alone; new ones may have come. -/
structure Only (O : Nat → Prop) (w w' : World) : Prop where
  os : w'.os = w.os
  tape : w'.tape = w.tape
  output : w'.output = w.output
  size : w.heap.size ≤ w'.heap.size
  block : ∀ k, k < w.heap.size → ¬ O k → w'.heap[k]? = w.heap[k]?
theorem Only.refl (O : Nat → Prop) (w : World) : Only O w w := ⟨rfl, rfl, rfl, Nat.le_refl _, fun _ _ _ => rfl⟩
theorem Only.of_below {O : Nat → Prop} {w w' : World} (h : Below w.heap.size w w') : Only O w w' := ⟨h.os, h.tape, h.output, h.size, fun k hk _ => h.block k hk⟩
theorem Only.trans {O O' : Nat → Prop} {a b c : World} (h : Only O a b) (k : Only O' b c) (hO : ∀ j, O' j → O j ∨ a.heap.size ≤ j) : Only O a c :=
  ⟨k.os.trans h.os, k.tape.trans h.tape, k.output.trans h.output, Nat.le_trans h.size k.size, fun j hj hn =>
    (k.block j (Nat.lt_of_lt_of_le hj h.size) (fun e => (hO j e).elim hn (fun g => by omega))).trans (h.block j hj hn)⟩
theorem Only.next {O : Nat → Prop} {a b c : World} (h : Only O a b) (hb : Below b.heap.size b c) : Only O a c := h.trans (O' := fun _ => False) (Only.of_below hb) (fun _ e => e.elim)
theorem Only.mono {O O' : Nat → Prop} {a b : World} (h : Only O a b) (hO : ∀ j, O j → O' j) : Only O' a b := ⟨h.os, h.tape, h.output, h.size, fun j hj hn => h.block j hj (fun e => hn (hO j e))⟩
theorem Only.below {O : Nat → Prop} {n : Nat} {w w' : World} (h : Only O w w') (hO : ∀ j, O j → n ≤ j) (hn : n ≤ w.heap.size) : Below n w w' :=
  ⟨h.os, h.tape, h.output, h.size, fun k hk => h.block k (by omega) (fun e => by have := hO k e; omega)⟩
theorem Only.setCell {O : Nat → Prop} {a w : World} (h : Only O a w) {p : Addr} (hp : O p.block ∨ a.heap.size ≤ p.block) (u : Value) : Only O a (w.setCell p u) :=
  h.trans (O' := fun j => j = p.block) ⟨rfl, rfl, rfl, by simp [World.setCell], fun k _ hn => Below.heap_setCell _ _ _ _ hn⟩ (fun j e => by subst e; exact hp)
theorem Only.alloc {O : Nat → Prop} {a w : World} (h : Only O a w) (o : Obj) : Only O a (w.alloc o) := h.next ((Below.refl _ w).alloc (Nat.le_refl _) o)
theorem Only.cell {O : Nat → Prop} {w w' : World} (h : Only O w w') {p : Addr} (hp : p.block < w.heap.size) (hn : ¬ O p.block) : w'.cell? p = w.cell? p := World.cell?_of_block (w := w) (h.block p.block hp hn)
theorem Blk.only {O : Nat → Prop} {w w' : World} {g : Nat} {cs : Array Value} {t : TypeId} (H : Blk w g cs t) (h : Only O w w') (hn : ¬ O g) : Blk w' g cs t := H.keep (h.block g H.lt hn)
theorem Only.grown {O : Nat → Prop} {w w' : World} {row : Option Nat} (h : w.grownBy w' row) (hO : ∀ k, row = some k → O k) : Only O w w' :=
  ⟨h.os, h.tape, h.output, h.size, fun k hk hn => h.block k hk fun e => hn (hO k e.symm)⟩

section
variable {w w' : World} {base e size n : Nat} {v : Value} {xs : List Value}
/-- A row of the call's own: what keeps it. -/
theorem row_keep (h : w.ownsRow base e size v n xs) (hk : ∀ g, v.ownBlock = some g → w'.heap[g]? = w.heap[g]?) : w'.ownsRow base e size v n xs := by
  refine ⟨h.1, ?_⟩
  rcases h.2 with ⟨rfl, h0⟩ | ⟨g, cap, cur, rfl, h2, h3, h4⟩
  · exact .inl ⟨rfl, h0⟩
  · exact .inr ⟨g, cap, cur, rfl, h2, (hk g rfl).trans h3, h4⟩
theorem row_form (h : w.ownsRow base e size v n xs) : ∃ A c, v = .slice A n c ∧ n ≤ c ∧ c ≤ 9223372036854775807 := by
  rcases h.2 with ⟨rfl, rfl⟩ | ⟨g, cap, cur, rfl, h2, h3, h4, h5, _⟩
  · exact ⟨none, 0, rfl, Nat.le_refl _, by omega⟩
  · exact ⟨_, cap, rfl, h4, by unfold maxLen at h5; omega⟩
/-- A cell of it. -/
theorem row_cell (h : w.ownsRow base e size v n xs) {j : Nat} {u : Value} (hu : xs[j]? = some u) :
    ∃ g c, v = .slice (some ⟨g, 0, none⟩) n c ∧ n ≤ c ∧ c ≤ 9223372036854775807 ∧ base ≤ g ∧ g < w.heap.size ∧ w.cell? ⟨g, j, none⟩ = some u ∧ w.frozen? ⟨g, j, none⟩ = false := by
  rcases h.2 with ⟨rfl, rfl⟩ | ⟨g, cap, cur, rfl, h2, h3, h4, h5, _⟩
  · have := (List.getElem?_eq_some_iff.1 hu).1
    have := h.1
    omega
  · refine ⟨g, cap, rfl, h4, by unfold maxLen at h5; omega, h2, (Array.getElem?_eq_some_iff.1 h3).1, ?_, frozen_of_row w g j cur e h3⟩
    have := h.cells (g := g) rfl j u hu
    have e : (Addr.add ⟨g, 0, none⟩ j) = ⟨g, j, none⟩ := by unfold Addr.add; split <;> simp_all
    rwa [e] at this
theorem row_base {b2 : Nat} (h : w.ownsRow base e size v n xs) (hb : ∀ g, v.ownBlock = some g → b2 ≤ g) : w.ownsRow b2 e size v n xs := by
  refine ⟨h.1, ?_⟩
  rcases h.2 with ⟨rfl, h0⟩ | ⟨g, cap, cur, rfl, h2, h4⟩
  · exact .inl ⟨rfl, h0⟩
  · exact .inr ⟨g, cap, cur, rfl, hb g rfl, h4⟩
end

theorem info_parts {P : Program} {t : TypeId} {z : Option Value} {a b : Nat} (h : (P.info? t).map (fun i => (i.zero, i.size, i.bytes)) = some (z, a, b)) : ∃ i, P.info? t = some i ∧ i.zero = z ∧ i.size = a ∧ i.bytes = b := by
  cases hi : P.info? t with
  | none => rw [hi] at h; cases h
  | some i => rw [hi] at h; simp at h; exact ⟨i, rfl, h.1, h.2.1, h.2.2⟩

end Go.Mtl
/- Any program: a slice that reads as cells, whatever its elements; a copy of it onto an empty row of the call's own. -/
set_option linter.unusedVariables false
namespace Go.Mtl
open Go.RowKit

/-- The slice v, n elements of size cells each, reads as the cells xs; where it is not empty it lies below block B. -/
def Rd (w : World) (B : Nat) (size n : Nat) (v : Value) (xs : List Value) : Prop :=
  ∃ A c, v = .slice A n c ∧ n ≤ c ∧ c ≤ 9223372036854775807 ∧ xs.length = n * size ∧ (0 < n → ∃ b off, A = some ⟨b, off, none⟩ ∧ b < B ∧ ∀ j u, xs[j]? = some u → w.cell? ⟨b, off + j, none⟩ = some u)
section
variable {w w' : World} {B B' size n : Nat} {v : Value} {xs : List Value}
theorem Rd.nil (w : World) (B size : Nat) : Rd w B size 0 (.slice none 0 0) [] := ⟨none, 0, rfl, Nat.le_refl _, by omega, by simp, fun h => absurd h (by omega)⟩
theorem Rd.keep (h : Rd w B size n v xs) (hk : ∀ p : Addr, p.block < B → w'.cell? p = w.cell? p) : Rd w' B size n v xs := by
  obtain ⟨A, c, e, h1, h2, h3, h4⟩ := h
  refine ⟨A, c, e, h1, h2, h3, fun hn => ?_⟩
  obtain ⟨b, off, e2, hb, hc⟩ := h4 hn
  exact ⟨b, off, e2, hb, fun j u hu => (hk ⟨b, off + j, none⟩ hb).trans (hc j u hu)⟩
theorem Rd.more (h : Rd w B size n v xs) (hB : B ≤ B') : Rd w B' size n v xs := by
  obtain ⟨A, c, e, h1, h2, h3, h4⟩ := h
  refine ⟨A, c, e, h1, h2, h3, fun hn => ?_⟩
  obtain ⟨b, off, e2, hb, hc⟩ := h4 hn
  exact ⟨b, off, e2, by omega, hc⟩
theorem Rd.below (h : Rd w B size n v xs) (hb : Below B w w') : Rd w' B size n v xs := h.keep fun _ hp => hb.cell hp
theorem Rd.next (h : Rd w w.heap.size size n v xs) (hb : Below w.heap.size w w') : Rd w' w'.heap.size size n v xs := (h.below hb).more hb.size
/-- What turns is elsewhere. -/
theorem Rd.only {O : Nat → Prop} (h : Rd w w.heap.size size n v xs) (ho : Only O w w') (hn : ∀ g, v.ownBlock = some g → ¬ O g) : Rd w' w'.heap.size size n v xs := by
  obtain ⟨A, c, rfl, h1, h2, h3, h4⟩ := h
  refine ⟨A, c, rfl, h1, h2, h3, fun hp => ?_⟩
  obtain ⟨b, off, rfl, hb, hc⟩ := h4 hp
  exact ⟨b, off, rfl, Nat.lt_of_lt_of_le hb ho.size, fun j u hu => (ho.cell (p := ⟨b, off + j, none⟩) hb (hn b rfl)).trans (hc j u hu)⟩
theorem Rd.len (h : Rd w B size n v xs) : ∃ A c, v = .slice A n c ∧ n ≤ c ∧ c ≤ 9223372036854775807 := by
  obtain ⟨A, c, e, h1, h2, _⟩ := h
  exact ⟨A, c, e, h1, h2⟩
theorem Rd.at_ (h : Rd w B size n v xs) (hn : 0 < n) : ∃ b off c, v = .slice (some ⟨b, off, none⟩) n c ∧ n ≤ c ∧ c ≤ 9223372036854775807 ∧ b < B ∧ ∀ j u, xs[j]? = some u → w.cell? ⟨b, off + j, none⟩ = some u := by
  obtain ⟨A, c, rfl, h1, h2, _, h4⟩ := h
  obtain ⟨b, off, rfl, hb, hc⟩ := h4 hn
  exact ⟨b, off, c, rfl, h1, h2, hb, hc⟩
theorem Rd.of_own {base e : Nat} (h : w.ownsRow base e size v n xs) : Rd w w.heap.size size n v xs := by
  obtain ⟨A, c, rfl, h1, h2⟩ := row_form h
  refine ⟨A, c, rfl, h1, h2, h.1, fun hn => ?_⟩
  rcases h.2 with ⟨_, h0⟩ | ⟨g, cap, cur, e1, _, h3, _⟩
  · omega
  · injection e1 with e1 _ _
    subst e1
    refine ⟨g, 0, rfl, (Array.getElem?_eq_some_iff.1 h3).1, fun j u hu => ?_⟩
    have := h.cells (g := g) rfl j u hu
    have e : (Addr.add ⟨g, 0, none⟩ j) = ⟨g, j, none⟩ := by unfold Addr.add; split <;> simp_all
    rw [Nat.zero_add]
    rwa [e] at this
end

/-- append run: to a row of the call's own, a slice that reads as cells: nil, empty or not. -/
theorem run_append_rd {P : Program} {w : World} (t ty e : TypeId) (ht : P.underlying t = some (.slice e)) (z : Value) (size bytes : Nat) (hinfo : (P.info? e).map (fun i => (i.zero, i.size, i.bytes)) = some (some z, size, bytes)) (hzs : z.cells.size = size) (hsz : 0 < size) (hby : bytes ≤ 64)
    (base : Nat) (hbase : base ≤ w.heap.size) (v : Value) (n : Nat) (xs : List Value) (hown : w.ownsRow base e size v n xs) (B m : Nat) (src : Value) (ys : List Value) (hr : Rd w B size m src ys) (h1 : ∀ u ∈ ys, u.oneCell' = true) (hn : n + m ≤ 1000000000000) :
    ∃ A' c' w', (Builtin.append_ #[t, t] ty #[v, src]).run P w = .ok (.slice A' (n + m) c') w' ∧ w'.ownsRow base e size (.slice A' (n + m) c') (n + m) (xs ++ ys) ∧ w.grownBy w' v.ownBlock := by
  obtain ⟨i, hi, hz0, hz1, hz2⟩ := info_parts hinfo
  obtain ⟨A, c, rfl, hmc, hc2, hl, h4⟩ := hr
  rcases A with _ | ad
  · have hm0 : m = 0 := by
      rcases Nat.eq_zero_or_pos m with h0 | h0
      · exact h0
      · obtain ⟨_, _, h, _⟩ := h4 h0
        cases h
    subst hm0
    obtain rfl : ys = [] := List.eq_nil_of_length_eq_zero (by rw [hl]; omega)
    have hrun : (Builtin.append_ #[t, t] ty #[v, .slice none 0 c]).run P w = .ok v w := by
      rcases hown.2 with ⟨rfl, h0⟩ | ⟨g, cap, cur, rfl, _, _, hnc, _⟩
      · simp [Builtin.append_, run_underlying ht, sizeOf, typeInfo, hi, Builtin.lenOf, Builtin.firstCells]
      · simp [Builtin.append_, run_underlying ht, sizeOf, typeInfo, hi, Builtin.lenOf, Builtin.firstCells, hnc, storeCells]
    obtain ⟨A', c', rfl, -, -⟩ := row_form hown
    exact ⟨A', c', w, hrun, by simpa using hown, World.grownBy.refl w _⟩
  · obtain ⟨v', w', h0, g1, g2, _, _⟩ := run_append_own_at (P := P) w base t ty e i z size bytes ht hi hz0 hz1 hz2 hzs hsz v n xs hown ad m c ys hl
      (by
        intro j u hu
        have hj : j < ys.length := (List.getElem?_eq_some_iff.1 hu).1
        have hm0 : 0 < m := by
          rcases Nat.eq_zero_or_pos m with h0 | h0
          · subst h0; omega
          · exact h0
        obtain ⟨b, off, h, _, hc⟩ := h4 hm0
        obtain rfl := Option.some.inj h
        have e1 : (Addr.add ⟨b, off, none⟩ j) = ⟨b, off + j, none⟩ := by unfold Addr.add; split <;> simp_all
        rw [e1]
        exact hc j u hu)
      h1 (by unfold maxLen; omega) (by have : (n + m) * bytes ≤ 1000000000000 * 64 := Nat.mul_le_mul hn hby; omega) hbase
    obtain ⟨A', c', rfl, -, -⟩ := row_form g1
    exact ⟨A', c', w', h0, g1, g2⟩
/-- .. at a step of a region that draws its order. -/
theorem step_append_rd {P : Program} {w : World} {o : Oper} {a : Act} {K : Act → World → Prop} {Q : Exit → Act → World → Prop} {ops : Array Oper} {E : Prop} (hgd : o.guard = none) (s x : Operand) (t e : TypeId)
    (ho : o.op = .call { callee := .builtin .append, args := #[s, x], argTypes := #[t, t] })
    (ht : P.underlying t = some (.slice e)) (z : Value) (size bytes : Nat) (hinfo : (P.info? e).map (fun i => (i.zero, i.size, i.bytes)) = some (some z, size, bytes)) (hzs : z.cells.size = size) (hsz : 0 < size) (hby : bytes ≤ 64)
    (W0 : World) (hbel : Below W0.heap.size W0 w) (v : Value) (n : Nat) (xs : List Value) (hs : a.eval s = v) (hown : w.ownsRow W0.heap.size e size v n xs) (B m : Nat) (src : Value) (ys : List Value) (hx : a.eval x = src) (hr : Rd w B size m src ys) (h1 : ∀ u ∈ ys, u.oneCell' = true) (k : Nat) (hk : n + m = k) (hn : k ≤ 1000000000000)
    (h : ∀ A' c' w', Hid (w'.ownsRow W0.heap.size e size (.slice A' k c') k (xs ++ ys)) → Hid (Below W0.heap.size W0 w') → Hid (w.grownBy w' v.ownBlock) → K (a.put o.dst (.slice A' k c')) w') :
    if Region.wanted o (yielded ops a.tmps) = true then Oper.wp P o a w K Q else E := by
  subst hk
  have hw : Region.wanted o (yielded ops a.tmps) = true := by simp [Region.wanted, hgd]
  rw [if_pos hw]
  obtain ⟨A', c', w', h0, g1, g2⟩ := run_append_rd (P := P) t o.type e ht z size bytes hinfo hzs hsz hby W0.heap.size hbel.size v n xs hown B m src ys hr h1 hn
  unfold Oper.wp execOp
  simp only [ho, resolve, invoke, builtin, Sem.run_bind, Sem.run_pure, Result.andThen_ok, List.map_toArray, List.map_cons, List.map_nil, hs, hx, h0]
  exact h _ _ _ g1 (hbel.grown g2 hbel.size fun k hk => (hown.lt k hk).1) g2
end Go.Mtl
