/- Structs of one-cell fields that came in by value, whatever their number: each field by its own reading. -/
import Derived.Lib.SmallJoins
import Derived.ChangeSame
import Derived.Deep.Fields
set_option linter.unusedVariables false
namespace Go.Mtl
open Go.Joins Go.ChangeShapes Go.WideShapes Go.RowKit Go.Deep
section
variable {H : Type} {enc : TypeId × Value → H} {P : Program} {w : World} {base : Nat} {spare : Nat → Bool} {held : Bool}
theorem open_fields {r : Reach} {b0 : Nat} {t : TypeId} {fs : Array Field} {v : Value} {d : DataW H} {p : List MemPlace} (hs : P.underlying t = some (.struct fs)) (hone : oneCellFields P fs = true) (hC : P.cellsOf t = fs.size)
    (hv : Value.okWide P w r b0 t v) (h : DataW.Trod enc P w base spare held t v d p) :
    ∃ (vs : Array Value) (n : Nat), v = .agg vs ∧ vs.size = fs.size ∧ ∀ (j : Nat) (f : Field), fs[j]? = some f → ∃ (u : Value) (y : DataW H × List MemPlace), vs[j]? = some u ∧ DataW.trod enc P w base spare held n f.type [u] = some y := by
  obtain ⟨vs, rfl, hsz⟩ := okWide_struct hs hv
  obtain ⟨fuel, hf⟩ := h
  obtain ⟨ys, n, _, _, _, hyl, hg⟩ := DataW.trod_struct hs hf
  have hz := hsz.trans hC
  refine ⟨vs, n, rfl, hz, fun j f hj => ?_⟩
  obtain ⟨ho, hk⟩ := hone_of hone j f hj
  have hjl : j < fs.size := (Array.getElem?_eq_some_iff.1 hj).1
  have h1 := hg j f hj
  rw [ho, hk] at h1
  have e : ((Value.agg vs).cells.toList.drop j).take 1 = [vs[j]'(by omega)] := by
    have : (Value.agg vs).cells = vs := by simp [Value.cells]
    rw [this, List.drop_eq_getElem_cons (by simp; omega)]
    simp
  rw [e, List.getElem?_eq_getElem (by omega)] at h1
  exact ⟨_, _, Array.getElem?_eq_getElem (by omega), h1⟩
end
theorem array7 {vs : Array Value} {u0 u1 u2 u3 u4 u5 u6 : Value} (h : vs.size = 7) (h0 : vs[0]? = some u0) (h1 : vs[1]? = some u1) (h2 : vs[2]? = some u2) (h3 : vs[3]? = some u3) (h4 : vs[4]? = some u4) (h5 : vs[5]? = some u5) (h6 : vs[6]? = some u6) :
    vs = #[u0, u1, u2, u3, u4, u5, u6] := by
  obtain ⟨l⟩ := vs
  match l, h with
  | [c0, c1, c2, c3, c4, c5, c6], _ => simp_all
theorem array2 {vs : Array Value} {u0 u1 : Value} (h : vs.size = 2) (h0 : vs[0]? = some u0) (h1 : vs[1]? = some u1) :
    vs = #[u0, u1] := by
  obtain ⟨l⟩ := vs
  match l, h with
  | [c0, c1], _ => simp_all
theorem array3 {vs : Array Value} {u0 u1 u2 : Value} (h : vs.size = 3) (h0 : vs[0]? = some u0) (h1 : vs[1]? = some u1) (h2 : vs[2]? = some u2) :
    vs = #[u0, u1, u2] := by
  obtain ⟨l⟩ := vs
  match l, h with
  | [c0, c1, c2], _ => simp_all
theorem array4 {vs : Array Value} {u0 u1 u2 u3 : Value} (h : vs.size = 4) (h0 : vs[0]? = some u0) (h1 : vs[1]? = some u1) (h2 : vs[2]? = some u2) (h3 : vs[3]? = some u3) :
    vs = #[u0, u1, u2, u3] := by
  obtain ⟨l⟩ := vs
  match l, h with
  | [c0, c1, c2, c3], _ => simp_all
theorem array5 {vs : Array Value} {u0 u1 u2 u3 u4 : Value} (h : vs.size = 5) (h0 : vs[0]? = some u0) (h1 : vs[1]? = some u1) (h2 : vs[2]? = some u2) (h3 : vs[3]? = some u3) (h4 : vs[4]? = some u4) :
    vs = #[u0, u1, u2, u3, u4] := by
  obtain ⟨l⟩ := vs
  match l, h with
  | [c0, c1, c2, c3, c4], _ => simp_all
theorem array6 {vs : Array Value} {u0 u1 u2 u3 u4 u5 : Value} (h : vs.size = 6) (h0 : vs[0]? = some u0) (h1 : vs[1]? = some u1) (h2 : vs[2]? = some u2) (h3 : vs[3]? = some u3) (h4 : vs[4]? = some u4) (h5 : vs[5]? = some u5) :
    vs = #[u0, u1, u2, u3, u4, u5] := by
  obtain ⟨l⟩ := vs
  match l, h with
  | [c0, c1, c2, c3, c4, c5], _ => simp_all
theorem array8 {vs : Array Value} {u0 u1 u2 u3 u4 u5 u6 u7 : Value} (h : vs.size = 8) (h0 : vs[0]? = some u0) (h1 : vs[1]? = some u1) (h2 : vs[2]? = some u2) (h3 : vs[3]? = some u3) (h4 : vs[4]? = some u4) (h5 : vs[5]? = some u5) (h6 : vs[6]? = some u6) (h7 : vs[7]? = some u7) :
    vs = #[u0, u1, u2, u3, u4, u5, u6, u7] := by
  obtain ⟨l⟩ := vs
  match l, h with
  | [c0, c1, c2, c3, c4, c5, c6, c7], _ => simp_all
end Go.Mtl
