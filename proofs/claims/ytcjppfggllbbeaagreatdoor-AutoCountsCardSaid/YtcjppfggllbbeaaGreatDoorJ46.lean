/- Several texts of this proof in one file, each in its own namespace. -/
import Derived.Lib.SmallJoins
import Derived.ChangeSame
import Derived.OpenShut
import Derived.Deep.Fields
/- A struct of two arrays of two integers each and one integer, come in by value: its five cells. Over any program. -/
set_option linter.unusedVariables false
namespace Go.Mtl
open Go.ChangeShapes Go.WideShapes Go.RowKit
section
variable {H : Type} {enc : TypeId × Value → H} {P : Program} {w : World} {base : Nat} {spare : Nat → Bool} {held : Bool}
theorem open_two {ta e : TypeId} {k : IntKind} (ha : P.underlying ta = some (.array 2 e)) (he : P.underlying e = some (.int k)) (hc : P.cellsOf e = 1) {n : Nat} {c0 c1 : Value} {x : DataW H × List MemPlace}
    (h : DataW.trod enc P w base spare held n ta [c0, c1] = some x) : ∃ a b : Int, c0 = .int k a ∧ c1 = .int k b ∧ (Lit.int k a).wf = true ∧ (Lit.int k b).wf = true := by
  obtain ⟨xs, m, _, _, _, hl, hg⟩ := DataW.trod_array ha h
  have g0 := hg 0 (by omega)
  have g1 := hg 1 (by omega)
  rw [hc] at g0 g1
  simp only [Nat.zero_mul, Nat.one_mul, List.drop_zero, List.take_succ_cons, List.take_zero, List.drop_succ_cons] at g0 g1
  rw [List.getElem?_eq_getElem (by omega)] at g0 g1
  obtain ⟨a, ea, _, wa⟩ := DataW.trod_int he g0
  obtain ⟨b, eb, _, wb⟩ := DataW.trod_int he g1
  exact ⟨a, b, by simpa using ea, by simpa using eb, wa, wb⟩
theorem open_pairs {r : Reach} {b0 : Nat} {t ta tb tc e1 e2 : TypeId} {k1 k2 k3 : IntKind} {fs : Array Field} {v : Value} {d : DataW H} {p : List MemPlace} (hs : P.underlying t = some (.struct fs)) (hC : P.cellsOf t = 5)
    (hf : fs.toList.map (fun f => (f.type, f.offset)) = [(ta, 0), (tb, 2), (tc, 4)]) (ha : P.underlying ta = some (.array 2 e1)) (hb : P.underlying tb = some (.array 2 e2)) (he1 : P.underlying e1 = some (.int k1)) (he2 : P.underlying e2 = some (.int k2)) (hc : P.underlying tc = some (.int k3))
    (ca : P.cellsOf ta = 2) (cb : P.cellsOf tb = 2) (cc : P.cellsOf tc = 1) (ce1 : P.cellsOf e1 = 1) (ce2 : P.cellsOf e2 = 1)
    (hv : Value.okWide P w r b0 t v) (h : DataW.Trod enc P w base spare held t v d p) :
    ∃ x1 x2 x3 x4 x5 : Int, v = .agg #[.int k1 x1, .int k1 x2, .int k2 x3, .int k2 x4, .int k3 x5] ∧ (Lit.int k1 x1).wf = true ∧ (Lit.int k1 x2).wf = true ∧ (Lit.int k2 x3).wf = true ∧ (Lit.int k2 x4).wf = true ∧ (Lit.int k3 x5).wf = true := by
  obtain ⟨vs, rfl, hsz⟩ := okWide_struct hs hv
  obtain ⟨fuel, hfu⟩ := h
  obtain ⟨ys, n, _, _, _, hyl, hg⟩ := DataW.trod_struct hs hfu
  rw [hC] at hsz
  obtain ⟨l⟩ := vs
  obtain ⟨fl⟩ := fs
  obtain ⟨f0, f1, f2, rfl⟩ : ∃ f0 f1 f2, fl = [f0, f1, f2] := by
    rcases fl with _ | ⟨f0, _ | ⟨f1, _ | ⟨f2, _ | ⟨f3, fl⟩⟩⟩⟩
    · simp at hf
    · simp at hf
    · simp at hf
    · exact ⟨_, _, _, rfl⟩
    · simp at hf
  match l, hsz with
  | [c0, c1, c2, c3, c4], _ =>
    simp only [List.map_cons, List.map_nil, List.cons.injEq, Prod.mk.injEq, and_true] at hf
    obtain ⟨⟨t0, o0⟩, ⟨t1, o1⟩, t2, o2⟩ := hf
    have g0 := hg 0 f0 rfl
    have g1 := hg 1 f1 rfl
    have g2 := hg 2 f2 rfl
    have hy : ys.length = 3 := hyl
    rw [t0, o0, ca, List.getElem?_eq_getElem (by omega)] at g0
    rw [t1, o1, cb, List.getElem?_eq_getElem (by omega)] at g1
    rw [t2, o2, cc, List.getElem?_eq_getElem (by omega)] at g2
    have hcs : (Value.agg #[c0, c1, c2, c3, c4]).cells.toList = [c0, c1, c2, c3, c4] := by simp [Value.cells]
    rw [hcs] at g0 g1 g2
    simp only [List.drop_zero, List.take_succ_cons, List.take_zero, List.drop_succ_cons] at g0 g1 g2
    obtain ⟨x1, x2, rfl, rfl, w1, w2⟩ := open_two ha he1 ce1 g0
    obtain ⟨x3, x4, rfl, rfl, w3, w4⟩ := open_two hb he2 ce2 g1
    obtain ⟨x5, e5, _, w5⟩ := DataW.trod_int hc g2
    obtain rfl : c4 = .int k3 x5 := by simpa using e5
    exact ⟨x1, x2, x3, x4, x5, rfl, w1, w2, w3, w4, w5⟩
end
end Go.Mtl
/- An array of integers of one kind, whatever its length, come in by value: its cells. Over any program. -/
set_option linter.unusedVariables false
namespace Go.Mtl
open Go.ChangeShapes Go.WideShapes Go.RowKit
section
variable {H : Type} {enc : TypeId × Value → H} {P : Program} {w : World} {base : Nat} {spare : Nat → Bool} {held : Bool}
theorem open_row {r : Reach} {b0 n : Nat} {t e : TypeId} {k : IntKind} {v : Value} {d : DataW H} {p : List MemPlace} (ha : P.underlying t = some (.array n e)) (he : P.underlying e = some (.int k)) (hc : P.cellsOf e = 1) (hC : P.cellsOf t = n)
    (hv : Value.okWide P w r b0 t v) (h : DataW.Trod enc P w base spare held t v d p) :
    ∃ (vs : Array Value) (f : Nat → Int), v = .agg vs ∧ vs.size = n ∧ ∀ i, i < n → vs[i]? = some (.int k (f i)) ∧ (Lit.int k (f i)).wf = true := by
  simp only [Value.okWide, ha] at hv
  obtain ⟨vs, rfl, hsz, _⟩ := hv
  have hz : vs.size = n := hsz.trans hC
  obtain ⟨fuel, hfu⟩ := h
  obtain ⟨xs, m, _, _, _, hl, hg⟩ := DataW.trod_array ha hfu
  have one : ∀ i : Nat, i < n → ∃ a : Int, vs[i]? = some (.int k a) ∧ (Lit.int k a).wf = true := by
    intro i hi
    have g := hg i hi
    rw [hc, Nat.mul_one] at g
    have hcs : (Value.agg vs).cells.toList = vs.toList := by simp [Value.cells]
    rw [hcs, List.drop_eq_getElem_cons (by simp; omega), List.take_succ_cons, List.take_zero, List.getElem?_eq_getElem (by omega)] at g
    obtain ⟨a, ea, _, wa⟩ := DataW.trod_int he g
    refine ⟨a, ?_, wa⟩
    rw [Array.getElem?_eq_getElem (by omega)]
    simpa using ea
  have F : ∀ i : Nat, ∃ a : Int, i < n → vs[i]? = some (.int k a) ∧ (Lit.int k a).wf = true := by
    intro i
    by_cases hi : i < n
    · obtain ⟨a, ha⟩ := one i hi
      exact ⟨a, fun _ => ha⟩
    · exact ⟨0, fun h => absurd h hi⟩
  exact ⟨vs, fun i => Classical.choose (F i), rfl, hz, fun i hi => Classical.choose_spec (F i) hi⟩
end
end Go.Mtl
/- Structs of one-cell fields that came in by value, whatever their number: each field by its own reading. -/
set_option linter.unusedVariables false
namespace Go.Mtl
open Go.Joins Go.ChangeShapes Go.WideShapes Go.RowKit Go.Deep
section
variable {H : Type} {enc : TypeId × Value → H} {P : Program} {w : World} {base : Nat} {spare : Nat → Bool} {held : Bool}
theorem open_fields {r : Reach} {b0 : Nat} {t : TypeId} {fs : Array Field} {v : Value} {d : DataW H} {p : List MemPlace} (hs : P.underlying t = some (.struct fs)) (hone : oneCellFields P fs = true) (hC : P.cellsOf t = fs.size)
    (hv : Value.okWide P w r b0 t v) (h : DataW.Trod enc P w base spare held t v d p) :
    ∃ (vs : Array Value) (n : Nat), v = .agg vs ∧ vs.size = fs.size ∧ ∀ (j : Nat) (f : Field), fs[j]? = some f → ∃ (u : Value) (y : DataW H × List MemPlace), vs[j]? = some u ∧ DataW.trod enc P w base spare held n f.type [u] = some y := by
  obtain ⟨vs, rfl, hsz⟩ := okWide_struct hs hv
  obtain ⟨fuel, hf⟩ := h
  obtain ⟨ys, n, _, _, _, hyl, hg⟩ := DataW.trod_struct hs hf
  have hz := hsz.trans hC
  refine ⟨vs, n, rfl, hz, fun j f hj => ?_⟩
  obtain ⟨ho, hk⟩ := hone_of hone j f hj
  have hjl : j < fs.size := (Array.getElem?_eq_some_iff.1 hj).1
  have h1 := hg j f hj
  rw [ho, hk] at h1
  have e : ((Value.agg vs).cells.toList.drop j).take 1 = [vs[j]'(by omega)] := by
    have : (Value.agg vs).cells = vs := by simp [Value.cells]
    rw [this, List.drop_eq_getElem_cons (by simp; omega)]
    simp
  rw [e, List.getElem?_eq_getElem (by omega)] at h1
  exact ⟨_, _, Array.getElem?_eq_getElem (by omega), h1⟩
end
theorem array7 {vs : Array Value} {u0 u1 u2 u3 u4 u5 u6 : Value} (h : vs.size = 7) (h0 : vs[0]? = some u0) (h1 : vs[1]? = some u1) (h2 : vs[2]? = some u2) (h3 : vs[3]? = some u3) (h4 : vs[4]? = some u4) (h5 : vs[5]? = some u5) (h6 : vs[6]? = some u6) :
    vs = #[u0, u1, u2, u3, u4, u5, u6] := by
  obtain ⟨l⟩ := vs
  match l, h with
  | [c0, c1, c2, c3, c4, c5, c6], _ => simp_all
theorem array2 {vs : Array Value} {u0 u1 : Value} (h : vs.size = 2) (h0 : vs[0]? = some u0) (h1 : vs[1]? = some u1) :
    vs = #[u0, u1] := by
  obtain ⟨l⟩ := vs
  match l, h with
  | [c0, c1], _ => simp_all
theorem array3 {vs : Array Value} {u0 u1 u2 : Value} (h : vs.size = 3) (h0 : vs[0]? = some u0) (h1 : vs[1]? = some u1) (h2 : vs[2]? = some u2) :
    vs = #[u0, u1, u2] := by
  obtain ⟨l⟩ := vs
  match l, h with
  | [c0, c1, c2], _ => simp_all
theorem array4 {vs : Array Value} {u0 u1 u2 u3 : Value} (h : vs.size = 4) (h0 : vs[0]? = some u0) (h1 : vs[1]? = some u1) (h2 : vs[2]? = some u2) (h3 : vs[3]? = some u3) :
    vs = #[u0, u1, u2, u3] := by
  obtain ⟨l⟩ := vs
  match l, h with
  | [c0, c1, c2, c3], _ => simp_all
theorem array5 {vs : Array Value} {u0 u1 u2 u3 u4 : Value} (h : vs.size = 5) (h0 : vs[0]? = some u0) (h1 : vs[1]? = some u1) (h2 : vs[2]? = some u2) (h3 : vs[3]? = some u3) (h4 : vs[4]? = some u4) :
    vs = #[u0, u1, u2, u3, u4] := by
  obtain ⟨l⟩ := vs
  match l, h with
  | [c0, c1, c2, c3, c4], _ => simp_all
theorem array6 {vs : Array Value} {u0 u1 u2 u3 u4 u5 : Value} (h : vs.size = 6) (h0 : vs[0]? = some u0) (h1 : vs[1]? = some u1) (h2 : vs[2]? = some u2) (h3 : vs[3]? = some u3) (h4 : vs[4]? = some u4) (h5 : vs[5]? = some u5) :
    vs = #[u0, u1, u2, u3, u4, u5] := by
  obtain ⟨l⟩ := vs
  match l, h with
  | [c0, c1, c2, c3, c4, c5], _ => simp_all
theorem array8 {vs : Array Value} {u0 u1 u2 u3 u4 u5 u6 u7 : Value} (h : vs.size = 8) (h0 : vs[0]? = some u0) (h1 : vs[1]? = some u1) (h2 : vs[2]? = some u2) (h3 : vs[3]? = some u3) (h4 : vs[4]? = some u4) (h5 : vs[5]? = some u5) (h6 : vs[6]? = some u6) (h7 : vs[7]? = some u7) :
    vs = #[u0, u1, u2, u3, u4, u5, u6, u7] := by
  obtain ⟨l⟩ := vs
  match l, h with
  | [c0, c1, c2, c3, c4, c5, c6, c7], _ => simp_all
end Go.Mtl
