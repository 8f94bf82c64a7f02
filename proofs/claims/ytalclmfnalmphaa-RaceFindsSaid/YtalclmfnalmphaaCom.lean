/- Common words of these proofs, over any program: slices of bytes that read as lists, what keeps them, and their text. -/
import Derived.WalkKit
import Derived.ProofKit
import Derived.Below
import Derived.OpenShut
import Derived.Deep.AppendLies
import Derived.Deep.Draws
import Derived.Lib.Hide
set_option linter.unusedVariables false
namespace Go.Mtl
open Go.RowKit

/-- The byte at place i. -/
def byt (bs : List UInt8) (i : Nat) : Nat := (bs.getD i 0).toNat
theorem byt_lt (bs : List UInt8) (i : Nat) : byt bs i < 256 := (bs.getD i 0).toNat_lt
theorem byt_drop (bs : List UInt8) (i j : Nat) : byt (bs.drop i) j = byt bs (i + j) := by simp [byt, List.getD, List.getElem?_drop]
theorem byt_take (bs : List UInt8) (m j : Nat) (h : j < m) : byt (bs.take m) j = byt bs j := by simp [byt, List.getD, h]

/-- The slice at A, n elements long, reads as the bytes bs; where it is not empty it lies below block B. -/
structure Bts (w : World) (B : Nat) (A : Option Addr) (n : Nat) (bs : List UInt8) : Prop where
  len : bs.length = n
  at_ : 0 < n → ∃ b off, A = some ⟨b, off, none⟩ ∧ b < B ∧ ∀ j, j < n → w.cell? ⟨b, off + j, none⟩ = some (.int .u8 (byt bs j : Int))

section
variable {w w' : World} {B B' n : Nat} {A : Option Addr} {bs : List UInt8}

theorem Bts.empty (w : World) (B : Nat) (A : Option Addr) : Bts w B A 0 [] := ⟨rfl, fun h => absurd h (by omega)⟩
theorem Bts.keep (h : Bts w B A n bs) (hk : ∀ p : Addr, p.block < B → w'.cell? p = w.cell? p) : Bts w' B A n bs :=
  ⟨h.len, fun hn => by
    obtain ⟨b, off, e, hb, hc⟩ := h.at_ hn
    exact ⟨b, off, e, hb, fun j hj => (hk _ hb).trans (hc j hj)⟩⟩
theorem Bts.more (h : Bts w B A n bs) (hB : B ≤ B') : Bts w B' A n bs :=
  ⟨h.len, fun hn => by
    obtain ⟨b, off, e, hb, hc⟩ := h.at_ hn
    exact ⟨b, off, e, by omega, hc⟩⟩
theorem Bts.below (h : Bts w B A n bs) (hb : Below B w w') : Bts w' B A n bs := h.keep fun _ hp => hb.cell hp
theorem Bts.drewN (h : Bts w B A n bs) (k : Nat) : Bts (w.drewN k) B A n bs := ⟨h.len, h.at_⟩
theorem Bts.drew (h : Bts w B A n bs) : Bts w.drew B A n bs := ⟨h.len, h.at_⟩
theorem Bts.alloc (h : Bts w B A n bs) (hB : B ≤ w.heap.size) (o : Obj) : Bts (w.alloc o) B A n bs := h.keep fun p hp => World.cell?_alloc_lt w o p (by omega)
theorem Bts.setCell (h : Bts w B A n bs) {p : Addr} (hB : B ≤ p.block) (u : Value) : Bts (w.setCell p u) B A n bs :=
  h.keep fun q hq => World.cell?_setCell_other w p q u (fun e => by subst e; omega)
/-- A cut out of it. -/
theorem Bts.cut (h : Bts w B A n bs) (i m : Nat) (hm : 0 < m) (hi : i + m ≤ n) : ∃ b off, A = some ⟨b, off, none⟩ ∧ Bts w B (some ⟨b, off + i, none⟩) m ((bs.drop i).take m) := by
  obtain ⟨b, off, e, hb, hc⟩ := h.at_ (by omega)
  have hl := h.len
  refine ⟨b, off, e, by simp; omega, fun _ => ⟨b, off + i, rfl, hb, fun j hj => ?_⟩⟩
  rw [Nat.add_assoc, hc (i + j) (by omega)]
  rw [byt_take _ _ _ hj, byt_drop]

/-- What came in: out of a row of numbers. -/
theorem bts_of_cells {x : Addr} {len : Nat} {zs : List Int} (hl : len ≤ zs.length) (hc : ∀ i, i < zs.length → w.cell? (x.add i) = some (.int .u8 (zs.getD i 0)))
    (hz : ∀ n ∈ zs, (Lit.int .u8 n).wf = true) : ∃ bs, Bts w w.heap.size (some x) len bs := by
  refine ⟨(zs.take len).map fun z => UInt8.ofNat z.toNat, by simp; omega, fun hn => ?_⟩
  obtain ⟨b, off, sp⟩ := x
  obtain rfl : sp = none := by simpa [Addr.add] using World.cell?_spot (hc 0 (by omega))
  have hb := World.block_lt_of_cell? _ _ (hc 0 (by omega))
  refine ⟨b, off, rfl, by simpa [Addr.add] using hb, fun j hj => ?_⟩
  have h1 := hc j (by omega)
  have h2 := bounds_u8 (hz zs[j] (List.getElem_mem (by omega)))
  have e : (Addr.add ⟨b, off, none⟩ j) = ⟨b, off + j, none⟩ := by unfold Addr.add; split <;> simp_all
  rw [← e, h1]
  have hjl : j < zs.length := by omega
  simp [byt, List.getD, hj, hjl]
  omega

/-- The text of the bytes. -/
def textOf (bs : List UInt8) : ByteArray := ⟨bs.toArray⟩
theorem foldl_push (ns : List UInt8) : ∀ s : ByteArray, (ns.map fun c => (c.toNat : Int)).foldl (fun r n => r.push (UInt8.ofNat n.toNat)) s = ⟨s.data ++ ns.toArray⟩ := by
  induction ns with
  | nil => intro s; simp
  | cons c ns ih =>
    intro s
    rw [List.map_cons, List.foldl_cons, ih]
    simp [ByteArray.push]
theorem run_text {P : Program} (src dst e : TypeId) (hs : P.underlying src = some (.slice e)) (he : P.underlying e = some (.int .u8)) (hd : P.underlying dst = some .string)
    {c : Nat} (h : Bts w B A n bs) : (convert src dst (.slice A n c)).run P w = .ok (.string (textOf bs)) w := by
  rw [run_convert_bytes_string w src dst e A n c hs he hd]
  rcases Nat.eq_zero_or_pos n with h0 | h0
  · subst h0
    have : bs = [] := List.eq_nil_of_length_eq_zero h.len
    subst this
    rcases A with _ | a
    · simp [Conv.bytesToString, Sem.run_pure]; rfl
    · have hl : (loadCells a 0).run P w = .ok (([] : List Int).map (Value.int .u8)).toArray w := by simp [loadCells, loadCellsFrom, Sem.run_pure]
      rw [run_bytesToString w a 0 c [] hl]; rfl
  · obtain ⟨b, off, rfl, _, hc⟩ := h.at_ h0
    have hl : (loadCells ⟨b, off, none⟩ n).run P w = .ok ((bs.map fun c => (c.toNat : Int)).map (Value.int .u8)).toArray w := by
      have hlen := h.len
      subst hlen
      have := run_loadCells_list (P := P) (w := w) ⟨b, off, none⟩ ((bs.map fun c => (c.toNat : Int)).map (Value.int .u8)) (by
        intro j v hv
        have hj : j < bs.length := by have := (List.getElem?_eq_some_iff.1 hv).1; simpa using this
        have e : (Addr.add ⟨b, off, none⟩ j) = ⟨b, off + j, none⟩ := by unfold Addr.add; split <;> simp_all
        rw [e, hc j hj]
        rw [← hv]
        simp [byt, List.getD, hj])
      simpa using this
    rw [run_bytesToString w _ n c _ hl, foldl_push]
    simp [textOf]
end

theorem textOf_inj {a b : List UInt8} (h : textOf a = textOf b) : a = b := by
  unfold textOf at h
  have := congrArg (fun x : ByteArray => x.data.toList) h
  simpa using this

/-- Bytes as the cells of a row. -/
def bvs (bs : List UInt8) : List Value := bs.map fun c => .int .u8 (c.toNat : Int)
theorem bvs_len (bs : List UInt8) : (bvs bs).length = bs.length := by simp [bvs]
theorem bvs_at (bs : List UInt8) (j : Nat) (h : j < bs.length) : (bvs bs)[j]? = some (.int .u8 (byt bs j : Int)) := by simp [bvs, byt, List.getD, h]
theorem bvs_snoc (bs : List UInt8) (c : UInt8) : bvs bs ++ [.int .u8 (c.toNat : Int)] = bvs (bs ++ [c]) := by simp [bvs]
theorem bvs_set (bs : List UInt8) (j : Nat) (c : UInt8) : (bvs bs).set j (.int .u8 (c.toNat : Int)) = bvs (bs.set j c) := by simp [bvs, List.map_set]
theorem bvs_zeros (n : Nat) : (madeCells (Value.int .u8 0).cells (n * 1)).toList = bvs (List.replicate n 0) := by
  apply List.ext_getElem?
  intro i
  by_cases h : i < n
  · simp [madeCells, bvs, Value.cells, h, Nat.mod_one]
  · simp [madeCells, bvs, h]
theorem byt_set (bs : List UInt8) (j k : Nat) (c : UInt8) (h : j < bs.length) : byt (bs.set j c) k = if j = k then c.toNat else byt bs k := by
  unfold byt
  simp only [List.getD, List.getElem?_set]
  split
  · simp
  · rfl
theorem eq_of_byt {a b : List UInt8} (hl : a.length = b.length) (h : ∀ j, j < a.length → byt a j = byt b j) : a = b := by
  apply List.ext_getElem hl
  intro i h1 h2
  have := h i h1
  unfold byt at this
  simp only [List.getD, List.getElem?_eq_getElem h1, List.getElem?_eq_getElem h2, Option.getD_some] at this
  exact UInt8.toNat_inj.1 this

/-- Of an owned row of bytes. -/
theorem bts_of_own {w : World} {base e : Nat} {v : Value} {n c : Nat} {A : Option Addr} {bs : List UInt8} (h : w.ownsRow base e 1 v n (bvs bs)) (hv : v = .slice A n c) : Bts w w.heap.size A n bs := by
  subst hv
  have hl : bs.length = n := by have := h.1; rw [bvs_len] at this; omega
  refine ⟨hl, fun hn => ?_⟩
  obtain ⟨g, cap, hv, _, hlt⟩ := h.form hn
  have hA : A = some ⟨g, 0, none⟩ := by injection hv
  subst hA
  refine ⟨g, 0, rfl, hlt, fun j hj => ?_⟩
  have e : (Addr.add ⟨g, 0, none⟩ j) = ⟨g, 0 + j, none⟩ := by unfold Addr.add; split <;> simp_all
  have := h.cells (g := g) rfl j _ (bvs_at bs j (by omega))
  rw [← e]; exact this

/-- 'out = append(out, byte(..))', out a row of the call's own: the literal of one byte has just been made. -/
theorem wpList_append_byte {P : Program} (w0 : World) {ops : Array Oper} {rest : List Oper} {o : Oper} {a : Act} {Q : Exit → Act → World → Prop} (hgd : o.guard = none) (s x : Operand) (t : TypeId)
    (ho : o.op = .call { callee := .builtin .append, args := #[s, x], argTypes := #[t, t] })
    (base : Nat) (e : TypeId) (i : TypeInfo) (ht : P.underlying t = some (.slice e)) (hi : P.info? e = some i) (hz : i.zero = some (.int .u8 0)) (hsize : i.size = 1) (hby : i.bytes = 1)
    (v : Value) (n : Nat) (xs : List Value) (c : Int) (hs : a.eval s = v) (hown : w0.ownsRow base e 1 v n xs)
    (hx : a.eval x = .slice (some ⟨w0.heap.size, 0, none⟩) 1 1) (hn : n ≤ 1073741824) (hbase : base ≤ w0.heap.size)
    (h : ∀ v' w', w'.ownsRow base e 1 v' (n + 1) (xs ++ [.int .u8 c]) → (w0.alloc (.cells #[.int .u8 c] e)).grownBy w' v.ownBlock → wpList P ops Q rest (a.put o.dst v') w') :
    wpList P ops Q (o :: rest) a (w0.alloc (.cells #[.int .u8 c] e)) := by
  refine wpList_append_own _ hgd s x t ho base e i (.int .u8 0) 1 1 ht hi hz hsize hby rfl (by omega) v n xs hs (hown.alloc _) ⟨w0.heap.size, 0, none⟩ 1 1 [.int .u8 c] hx rfl ?_ ?_ (by unfold maxLen; omega) (by omega) (by simp; omega)
    (fun v' w' h1 h2 _ => h v' w' h1 h2)
  · intro j u hu
    have hj : j = 0 := by have := (List.getElem?_eq_some_iff.1 hu).1; simpa using this
    subst hj
    simp at hu
    subst hu
    simp [Addr.add]
  · intro u hu
    simp at hu
    subst hu
    rfl

end Go.Mtl
