/- Any program: a slice that reads as cells, whatever its elements; a copy of it onto an empty row of the call's own. -/
import Derived.Test.YtalclmfnalmphaaComN
set_option linter.unusedVariables false
namespace Go.Mtl
open Go.RowKit

/-- The slice v, n elements of size cells each, reads as the cells xs; where it is not empty it lies below block B. -/
def Rd (w : World) (B : Nat) (size n : Nat) (v : Value) (xs : List Value) : Prop :=
  ∃ A c, v = .slice A n c ∧ n ≤ c ∧ c ≤ 9223372036854775807 ∧ xs.length = n * size ∧ (0 < n → ∃ b off, A = some ⟨b, off, none⟩ ∧ b < B ∧ ∀ j u, xs[j]? = some u → w.cell? ⟨b, off + j, none⟩ = some u)
section
variable {w w' : World} {B B' size n : Nat} {v : Value} {xs : List Value}
theorem Rd.nil (w : World) (B size : Nat) : Rd w B size 0 (.slice none 0 0) [] := ⟨none, 0, rfl, Nat.le_refl _, by omega, by simp, fun h => absurd h (by omega)⟩
theorem Rd.keep (h : Rd w B size n v xs) (hk : ∀ p : Addr, p.block < B → w'.cell? p = w.cell? p) : Rd w' B size n v xs := by
  obtain ⟨A, c, e, h1, h2, h3, h4⟩ := h
  refine ⟨A, c, e, h1, h2, h3, fun hn => ?_⟩
  obtain ⟨b, off, e2, hb, hc⟩ := h4 hn
  exact ⟨b, off, e2, hb, fun j u hu => (hk ⟨b, off + j, none⟩ hb).trans (hc j u hu)⟩
theorem Rd.more (h : Rd w B size n v xs) (hB : B ≤ B') : Rd w B' size n v xs := by
  obtain ⟨A, c, e, h1, h2, h3, h4⟩ := h
  refine ⟨A, c, e, h1, h2, h3, fun hn => ?_⟩
  obtain ⟨b, off, e2, hb, hc⟩ := h4 hn
  exact ⟨b, off, e2, by omega, hc⟩
theorem Rd.below (h : Rd w B size n v xs) (hb : Below B w w') : Rd w' B size n v xs := h.keep fun _ hp => hb.cell hp
theorem Rd.next (h : Rd w w.heap.size size n v xs) (hb : Below w.heap.size w w') : Rd w' w'.heap.size size n v xs := (h.below hb).more hb.size
/-- What turns is elsewhere. -/
theorem Rd.only {O : Nat → Prop} (h : Rd w w.heap.size size n v xs) (ho : Only O w w') (hn : ∀ g, v.ownBlock = some g → ¬ O g) : Rd w' w'.heap.size size n v xs := by
  obtain ⟨A, c, rfl, h1, h2, h3, h4⟩ := h
  refine ⟨A, c, rfl, h1, h2, h3, fun hp => ?_⟩
  obtain ⟨b, off, rfl, hb, hc⟩ := h4 hp
  exact ⟨b, off, rfl, Nat.lt_of_lt_of_le hb ho.size, fun j u hu => (ho.cell (p := ⟨b, off + j, none⟩) hb (hn b rfl)).trans (hc j u hu)⟩
theorem Rd.len (h : Rd w B size n v xs) : ∃ A c, v = .slice A n c ∧ n ≤ c ∧ c ≤ 9223372036854775807 := by
  obtain ⟨A, c, e, h1, h2, _⟩ := h
  exact ⟨A, c, e, h1, h2⟩
theorem Rd.at_ (h : Rd w B size n v xs) (hn : 0 < n) : ∃ b off c, v = .slice (some ⟨b, off, none⟩) n c ∧ n ≤ c ∧ c ≤ 9223372036854775807 ∧ b < B ∧ ∀ j u, xs[j]? = some u → w.cell? ⟨b, off + j, none⟩ = some u := by
  obtain ⟨A, c, rfl, h1, h2, _, h4⟩ := h
  obtain ⟨b, off, rfl, hb, hc⟩ := h4 hn
  exact ⟨b, off, c, rfl, h1, h2, hb, hc⟩
theorem Rd.of_own {base e : Nat} (h : w.ownsRow base e size v n xs) : Rd w w.heap.size size n v xs := by
  obtain ⟨A, c, rfl, h1, h2⟩ := row_form h
  refine ⟨A, c, rfl, h1, h2, h.1, fun hn => ?_⟩
  rcases h.2 with ⟨_, h0⟩ | ⟨g, cap, cur, e1, _, h3, _⟩
  · omega
  · injection e1 with e1 _ _
    subst e1
    refine ⟨g, 0, rfl, (Array.getElem?_eq_some_iff.1 h3).1, fun j u hu => ?_⟩
    have := h.cells (g := g) rfl j u hu
    have e : (Addr.add ⟨g, 0, none⟩ j) = ⟨g, j, none⟩ := by unfold Addr.add; split <;> simp_all
    rw [Nat.zero_add]
    rwa [e] at this
end

/-- A slice beside nil. -/
theorem slice_nil {P : Program} (t e : TypeId) (ht : P.underlying t = some (.slice e)) (A : Option Addr) (n c : Nat) (W : World) : (binOp .eql t (.slice A n c) (.slice none 0 0)).run P W = .ok (.bool A.isNone) W := by
  have h : (Op.equal t (.slice A n c) (.slice none 0 0)).run P W = .ok A.isNone W := by
    show (Op.equalIn (9999 + 1) t _ _).run _ _ = _
    rw [Op.equalIn]
    cases A <;> simp [run_underlying ht]
  simp [binOp, h]

/-- 'append(S{}, s...)', the empty literal just laid. -/
theorem wpList_clone {P : Program} {w : World} {ops : Array Oper} {rest : List Oper} {o : Oper} {a : Act} {Q : Exit → Act → World → Prop} (hgd : o.guard = none) (s x : Operand) (t e : TypeId)
    (ho : o.op = .call { callee := .builtin .append, args := #[s, x], argTypes := #[t, t] })
    (ht : P.underlying t = some (.slice e)) (z : Value) (size bytes : Nat) (hinfo : (P.info? e).map (fun i => (i.zero, i.size, i.bytes)) = some (some z, size, bytes)) (hzs : z.cells.size = size) (hsz : 0 < size) (hby : bytes ≤ 64)
    (hs : a.eval s = .slice (some ⟨w.heap.size, 0, none⟩) 0 0) (n c : Nat) (ad : Addr) (xs : List Value) (hx : a.eval x = .slice (some ad) n c) (hr : Rd w w.heap.size size n (.slice (some ad) n c) xs) (h1 : ∀ u ∈ xs, u.oneCell' = true) (hn : n ≤ 1000000000000)
    (h : ∀ A' c' w', Hid (w'.ownsRow w.heap.size e size (.slice A' n c') n xs) → Hid (Below w.heap.size w w') → wpList P ops Q rest (a.put o.dst (.slice A' n c')) w') :
    wpList P ops Q (o :: rest) a (w.alloc (.cells #[] e)) := by
  obtain ⟨i, hi, hz0, hz1, hz2⟩ := info_parts hinfo
  have hb : Below w.heap.size w (w.alloc (.cells #[] e)) := (Below.refl _ w).alloc (Nat.le_refl _) _
  have hown : (w.alloc (.cells #[] e)).ownsRow w.heap.size e size (.slice (some ⟨w.heap.size, 0, none⟩) 0 0) 0 [] :=
    World.ownsRow_made w #[] 0 (Nat.le_refl _) (by unfold maxLen; omega) (by simp)
  have hl : xs.length = n * size := by obtain ⟨_, _, _, _, _, h3, _⟩ := hr; exact h3
  refine wpList_append_own_at (P := P) (w.alloc (.cells #[] e)) hgd s x t ho w.heap.size e i z size bytes ht hi hz0 hz1 hz2 hzs hsz _ 0 [] hs hown ad n c xs hx hl ?_ h1 (by unfold maxLen; omega) ?_ (by rw [World.size_alloc]; omega) ?_
  · intro j u hj
    have hn0 : 0 < n := by
      rcases Nat.eq_zero_or_pos n with h0 | h0
      · subst h0; have := (List.getElem?_eq_some_iff.1 hj).1; omega
      · exact h0
    obtain ⟨b, off, c2, e2, _, _, hlt, hc⟩ := hr.at_ hn0
    injection e2 with e2 _ _
    obtain rfl := Option.some.inj e2
    have e1 : (Addr.add ⟨b, off, none⟩ j) = ⟨b, off + j, none⟩ := by unfold Addr.add; split <;> simp_all
    rw [e1]
    exact (hb.cell (p := ⟨b, off + j, none⟩) hlt).trans (hc j u hj)
  · have : (0 + n) * bytes ≤ 1000000000000 * 64 := Nat.mul_le_mul (by omega) hby
    omega
  · intro v' w' g1 g2 _ _
    rw [Nat.zero_add, List.nil_append] at g1
    obtain ⟨A', c', rfl, -, -⟩ := row_form g1
    exact h A' c' w' g1 (hb.grown g2 (by rw [World.size_alloc]; omega) fun k hk => (hown.lt k hk).1)

/-- append run: to a row of the call's own, a slice that reads as cells: nil, empty or not. -/
theorem run_append_rd {P : Program} {w : World} (t ty e : TypeId) (ht : P.underlying t = some (.slice e)) (z : Value) (size bytes : Nat) (hinfo : (P.info? e).map (fun i => (i.zero, i.size, i.bytes)) = some (some z, size, bytes)) (hzs : z.cells.size = size) (hsz : 0 < size) (hby : bytes ≤ 64)
    (base : Nat) (hbase : base ≤ w.heap.size) (v : Value) (n : Nat) (xs : List Value) (hown : w.ownsRow base e size v n xs) (B m : Nat) (src : Value) (ys : List Value) (hr : Rd w B size m src ys) (h1 : ∀ u ∈ ys, u.oneCell' = true) (hn : n + m ≤ 1000000000000) :
    ∃ A' c' w', (Builtin.append_ #[t, t] ty #[v, src]).run P w = .ok (.slice A' (n + m) c') w' ∧ w'.ownsRow base e size (.slice A' (n + m) c') (n + m) (xs ++ ys) ∧ w.grownBy w' v.ownBlock := by
  obtain ⟨i, hi, hz0, hz1, hz2⟩ := info_parts hinfo
  obtain ⟨A, c, rfl, hmc, hc2, hl, h4⟩ := hr
  rcases A with _ | ad
  · have hm0 : m = 0 := by
      rcases Nat.eq_zero_or_pos m with h0 | h0
      · exact h0
      · obtain ⟨_, _, h, _⟩ := h4 h0
        cases h
    subst hm0
    obtain rfl : ys = [] := List.eq_nil_of_length_eq_zero (by rw [hl]; omega)
    have hrun : (Builtin.append_ #[t, t] ty #[v, .slice none 0 c]).run P w = .ok v w := by
      rcases hown.2 with ⟨rfl, h0⟩ | ⟨g, cap, cur, rfl, _, _, hnc, _⟩
      · simp [Builtin.append_, run_underlying ht, sizeOf, typeInfo, hi, Builtin.lenOf, Builtin.firstCells]
      · simp [Builtin.append_, run_underlying ht, sizeOf, typeInfo, hi, Builtin.lenOf, Builtin.firstCells, hnc, storeCells]
    obtain ⟨A', c', rfl, -, -⟩ := row_form hown
    exact ⟨A', c', w, hrun, by simpa using hown, World.grownBy.refl w _⟩
  · obtain ⟨v', w', h0, g1, g2, _, _⟩ := run_append_own_at (P := P) w base t ty e i z size bytes ht hi hz0 hz1 hz2 hzs hsz v n xs hown ad m c ys hl
      (by
        intro j u hu
        have hj : j < ys.length := (List.getElem?_eq_some_iff.1 hu).1
        have hm0 : 0 < m := by
          rcases Nat.eq_zero_or_pos m with h0 | h0
          · subst h0; omega
          · exact h0
        obtain ⟨b, off, h, _, hc⟩ := h4 hm0
        obtain rfl := Option.some.inj h
        have e1 : (Addr.add ⟨b, off, none⟩ j) = ⟨b, off + j, none⟩ := by unfold Addr.add; split <;> simp_all
        rw [e1]
        exact hc j u hu)
      h1 (by unfold maxLen; omega) (by have : (n + m) * bytes ≤ 1000000000000 * 64 := Nat.mul_le_mul hn hby; omega) hbase
    obtain ⟨A', c', rfl, -, -⟩ := row_form g1
    exact ⟨A', c', w', h0, g1, g2⟩
/-- .. at a step of a region that draws its order. -/
theorem step_append_rd {P : Program} {w : World} {o : Oper} {a : Act} {K : Act → World → Prop} {Q : Exit → Act → World → Prop} {ops : Array Oper} {E : Prop} (hgd : o.guard = none) (s x : Operand) (t e : TypeId)
    (ho : o.op = .call { callee := .builtin .append, args := #[s, x], argTypes := #[t, t] })
    (ht : P.underlying t = some (.slice e)) (z : Value) (size bytes : Nat) (hinfo : (P.info? e).map (fun i => (i.zero, i.size, i.bytes)) = some (some z, size, bytes)) (hzs : z.cells.size = size) (hsz : 0 < size) (hby : bytes ≤ 64)
    (W0 : World) (hbel : Below W0.heap.size W0 w) (v : Value) (n : Nat) (xs : List Value) (hs : a.eval s = v) (hown : w.ownsRow W0.heap.size e size v n xs) (B m : Nat) (src : Value) (ys : List Value) (hx : a.eval x = src) (hr : Rd w B size m src ys) (h1 : ∀ u ∈ ys, u.oneCell' = true) (k : Nat) (hk : n + m = k) (hn : k ≤ 1000000000000)
    (h : ∀ A' c' w', Hid (w'.ownsRow W0.heap.size e size (.slice A' k c') k (xs ++ ys)) → Hid (Below W0.heap.size W0 w') → Hid (w.grownBy w' v.ownBlock) → K (a.put o.dst (.slice A' k c')) w') :
    if Region.wanted o (yielded ops a.tmps) = true then Oper.wp P o a w K Q else E := by
  subst hk
  have hw : Region.wanted o (yielded ops a.tmps) = true := by simp [Region.wanted, hgd]
  rw [if_pos hw]
  obtain ⟨A', c', w', h0, g1, g2⟩ := run_append_rd (P := P) t o.type e ht z size bytes hinfo hzs hsz hby W0.heap.size hbel.size v n xs hown B m src ys hr h1 hn
  unfold Oper.wp execOp
  simp only [ho, resolve, invoke, builtin, Sem.run_bind, Sem.run_pure, Result.andThen_ok, List.map_toArray, List.map_cons, List.map_nil, hs, hx, h0]
  exact h _ _ _ g1 (hbel.grown g2 hbel.size fun k hk => (hown.lt k hk).1) g2
/-- 'make([]T, n)' at a step of a region that draws its order. -/
theorem step_make {P : Program} {w : World} {o : Oper} {a : Act} {K : Act → World → Prop} {Q : Exit → Act → World → Prop} {ops : Array Oper} {E : Prop} (hgd : o.guard = none) (l c : Operand) (t : TypeId) (hop : o.op = Op.makeSlice t l c)
    (base : Nat) (e : TypeId) (z : Value) (size bytes : Nat) (ht : P.underlying t = some (.slice e)) (hinfo : (P.info? e).map (fun i => (i.zero, i.size, i.bytes)) = some (some z, size, bytes)) (hby : bytes ≤ 64)
    (k : IntKind) (n : Nat) (hl : a.eval l = .int k (n : Int)) (hc : a.eval c = .int k (n : Int)) (hn : n ≤ 1000000000000) (hb : base ≤ w.heap.size)
    (h : ∀ w', Hid (w'.ownsRow base e size (.slice (some ⟨w.heap.size, 0, none⟩) n n) n (madeCells z.cells (n * size)).toList) → Hid (Below w.heap.size w w') → K (a.put o.dst (.slice (some ⟨w.heap.size, 0, none⟩) n n)) w') :
    if Region.wanted o (yielded ops a.tmps) = true then Oper.wp P o a w K Q else E := by
  have hw : Region.wanted o (yielded ops a.tmps) = true := by simp [Region.wanted, hgd]
  rw [if_pos hw]
  obtain ⟨i, hi, hz0, hz1, hz2⟩ := info_parts hinfo
  have hbb : i.bytes * n ≤ 281474976710656 := by
    rw [hz2]
    have : bytes * n ≤ 64 * 1000000000000 := Nat.mul_le_mul hby hn
    omega
  obtain ⟨w', hrun, r1, r2⟩ := run_make_full (P := P) w base t e i z size ht hi hz0 hz1 k k n hbb (by unfold maxLen; omega) hb
  unfold Oper.wp
  simp [execOp, hop, hl, hc, hrun, Result.andThen]
  exact h _ r1 ((Below.refl _ w).grown r2 (Nat.le_refl _) (by simp))
theorem at_world {K : World → Prop} {x : World} (h : ∀ V, V = x → K V) : K x := h x rfl
end Go.Mtl
