/- Any program: a slice of integers of one kind that came in; a row of integers of the call's own, and an append of one to it. -/
import Derived.Test.YtbikbccmnmbkfaaComV
import Derived.ChangeSlices
set_option linter.unusedVariables false
namespace Go.Mtl
open Go.ChangeShapes Go.RowKit

/-- The slice at A, n elements long, reads as the numbers zs of kind k; where it is not empty it lies below block B. -/
structure Ints (k : IntKind) (w : World) (B : Nat) (A : Option Addr) (n : Nat) (zs : List Int) : Prop where
  len : zs.length = n
  at_ : 0 < n → ∃ b off, A = some ⟨b, off, none⟩ ∧ b < B ∧ ∀ j, j < n → w.cell? ⟨b, off + j, none⟩ = some (.int k (zs.getD j 0))
  fit : ∀ z ∈ zs, (Lit.int k z).wf = true
section
variable {k : IntKind} {w w' : World} {B B' n : Nat} {A : Option Addr} {zs : List Int}
theorem Ints.keep (h : Ints k w B A n zs) (hk : ∀ p : Addr, p.block < B → w'.cell? p = w.cell? p) : Ints k w' B A n zs :=
  ⟨h.len, fun hn => by
    obtain ⟨b, off, e, hb, hc⟩ := h.at_ hn
    exact ⟨b, off, e, hb, fun j hj => (hk _ hb).trans (hc j hj)⟩, h.fit⟩
theorem Ints.below (h : Ints k w B A n zs) (hb : Below B w w') : Ints k w' B A n zs := h.keep fun _ hp => hb.cell hp
theorem Ints.empty (k : IntKind) (w : World) (B : Nat) (A : Option Addr) : Ints k w B A 0 [] := ⟨rfl, fun h => absurd h (by omega), fun _ h => by cases h⟩
theorem Ints.get (h : Ints k w B A n zs) {j : Nat} (hj : j < n) : (Lit.int k (zs.getD j 0)).wf = true := by
  have hl := h.len
  have e : zs.getD j 0 = zs[j] := by simp [List.getD, show j < zs.length by omega]
  rw [e]
  exact h.fit _ (List.getElem_mem (by omega))
/-- What came in: out of a row of numbers. -/
theorem ints_of_cells {x : Addr} {len : Nat} {zs : List Int} (hl : len ≤ zs.length) (hc : ∀ i, i < zs.length → w.cell? (x.add i) = some (.int k (zs.getD i 0)))
    (hz : ∀ n ∈ zs, (Lit.int k n).wf = true) : ∃ ys, Ints k w w.heap.size (some x) len ys := by
  refine ⟨zs.take len, by simp; omega, fun hn => ?_, fun z h => hz z (List.mem_of_mem_take h)⟩
  obtain ⟨b, off, sp⟩ := x
  obtain rfl : sp = none := by simpa [Addr.add] using World.cell?_spot (hc 0 (by omega))
  have hb := World.block_lt_of_cell? _ _ (hc 0 (by omega))
  refine ⟨b, off, rfl, by simpa [Addr.add] using hb, fun j hj => ?_⟩
  have h1 := hc j (by omega)
  have e : (Addr.add ⟨b, off, none⟩ j) = ⟨b, off + j, none⟩ := by unfold Addr.add; split <;> simp_all
  rw [← e, h1]
  simp [List.getD, hj]
end

/-- Numbers as values. -/
def ivs (k : IntKind) (zs : List Int) : List Value := zs.map (.int k)
theorem ivs_len (k : IntKind) (zs : List Int) : (ivs k zs).length = zs.length := by simp [ivs]
theorem parts_int {P : Program} {t : TypeId} {z : Option Value} {a b : Nat} (h : (P.info? t).map (fun i => (i.zero, i.size, i.bytes)) = some (z, a, b)) : ∃ i, P.info? t = some i ∧ i.zero = z ∧ i.size = a ∧ i.bytes = b := by
  cases hi : P.info? t with
  | none => rw [hi] at h; cases h
  | some i => rw [hi] at h; simp at h; exact ⟨i, rfl, h.1, h.2.1, h.2.2⟩

/-- A row of the call's own: a cell of it. -/
theorem own_int {w : World} {base e n c : Nat} {A : Option Addr} {k : IntKind} {zs : List Int} (h : w.ownsRow base e 1 (.slice A n c) n (ivs k zs)) {j : Nat} (hj : j < n) :
    ∃ g, A = some ⟨g, 0, none⟩ ∧ base ≤ g ∧ g < w.heap.size ∧ w.cell? ⟨g, j, none⟩ = some (.int k (zs.getD j 0)) := by
  have hl : zs.length = n := by have := h.1; rw [ivs_len] at this; omega
  rcases h.2 with ⟨_, h0⟩ | ⟨g, cap, cur, h1, h2, h3, h4, h5, h6, h7⟩
  · omega
  · injection h1 with h1 _ _
    refine ⟨g, h1, h2, (Array.getElem?_eq_some_iff.1 h3).1, ?_⟩
    rw [cell_of_row w g j cur e (0, 0) h3]
    have h8 : (cur.toList.take (n * 1))[j]? = (ivs k zs)[j]? := by rw [h7]
    rw [List.getElem?_take, if_pos (by omega)] at h8
    rw [← Array.getElem?_toList, h8]
    simp [ivs, List.getD, show j < zs.length by omega]
theorem alloc_at (w : World) (o : Obj) : (w.alloc o).heap[w.heap.size]? = some o := by
  show (w.heap.push o)[w.heap.size]? = some o
  simp
/-- .. made of one number. -/
theorem own_one {w w0 : World} (e : TypeId) (k : IntKind) (z : Int) (hb : Below w0.heap.size w0 w) :
    (w.alloc (.cells #[.int k z] e)).ownsRow w0.heap.size e 1 (.slice (some ⟨w.heap.size, 0, none⟩) 1 1) 1 (ivs k [z]) := by
  refine ⟨rfl, .inr ⟨w.heap.size, 1, #[.int k z], rfl, hb.size, alloc_at w _, Nat.le_refl _, by unfold maxLen; omega, rfl, rfl⟩⟩

/-- 'append(list, z)': list a row of the call's own. -/
theorem wpList_append_int {P : Program} {w W0 : World} {ops : Array Oper} {rest : List Oper} {o : Oper} {a : Act} {Q : Exit → Act → World → Prop} (n1 : Nat) (hgd : o.guard = none) (s x : Operand) (t e : TypeId) (k : IntKind) (bytes : Nat)
    (ho : o.op = .call { callee := .builtin .append, args := #[s, x], argTypes := #[t, t] })
    (ht : P.underlying t = some (.slice e)) (hinfo : (P.info? e).map (fun i => (i.zero, i.size, i.bytes)) = some (some (.int k 0), 1, bytes)) (hby : bytes ≤ 8)
    (v : Value) (n : Nat) (zs : List Int) (hs : a.eval s = v) (hown : w.ownsRow W0.heap.size e 1 v n (ivs k zs)) (hbel : Below W0.heap.size W0 w)
    (z : Int) (hx : a.eval x = .slice (some ⟨w.heap.size, 0, none⟩) 1 1) (hn1 : n + 1 = n1) (hlen : n ≤ 100000)
    (h : ∀ A' c' w', Hid (w'.ownsRow W0.heap.size e 1 (.slice A' n1 c') n1 (ivs k (zs ++ [z]))) → Hid (Below W0.heap.size W0 w') → wpList P ops Q rest (a.put o.dst (.slice A' n1 c')) w') :
    wpList P ops Q (o :: rest) a (w.alloc (.cells #[.int k z] e)) := by
  subst hn1
  obtain ⟨i, hi, hz0, hz1, hz2⟩ := parts_int hinfo
  have hown1 := hown.alloc (.cells #[.int k z] e)
  have hb1 : Below W0.heap.size W0 (w.alloc (.cells #[.int k z] e)) := hbel.alloc hbel.size _
  refine wpList_append_own (P := P) _ hgd s x t ho W0.heap.size e i (.int k 0) 1 bytes ht hi hz0 hz1 hz2 rfl (by decide) v n (ivs k zs) hs hown1
    ⟨w.heap.size, 0, none⟩ 1 1 [.int k z] hx rfl (by intro j u hj; match j, hj with | 0, hj => (simp at hj; subst hj; simp [Addr.add]) | (j + 1), hj => simp at hj) (by intro u hu; simp at hu; subst hu; rfl) (by unfold maxLen; omega)
    (by have : (n + 1) * bytes ≤ 100001 * 8 := Nat.mul_le_mul (by omega) hby; omega) hb1.size ?_
  intro v' w' g1 g2 _
  rw [show ivs k zs ++ [.int k z] = ivs k (zs ++ [z]) by simp [ivs]] at g1
  obtain ⟨A', c', rfl⟩ : ∃ A' c', v' = .slice A' (n + 1) c' := by
    rcases g1.2 with ⟨rfl, hn⟩ | ⟨g, cap, cur, rfl, _⟩
    · omega
    · exact ⟨_, _, rfl⟩
  exact h A' c' w' g1 (hb1.grown g2 hb1.size fun k hk => (hown1.lt k hk).1)
end Go.Mtl
