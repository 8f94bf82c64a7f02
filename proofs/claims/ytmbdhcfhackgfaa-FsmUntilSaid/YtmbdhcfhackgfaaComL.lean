/- An array of integers of one kind, whatever its length, come in by value: its cells. Over any program. -/
import Derived.Lib.SmallJoins
import Derived.ChangeSame
import Derived.OpenShut
set_option linter.unusedVariables false
namespace Go.Mtl
open Go.ChangeShapes Go.WideShapes Go.RowKit
section
variable {H : Type} {enc : TypeId × Value → H} {P : Program} {w : World} {base : Nat} {spare : Nat → Bool} {held : Bool}
theorem open_row {r : Reach} {b0 n : Nat} {t e : TypeId} {k : IntKind} {v : Value} {d : DataW H} {p : List MemPlace} (ha : P.underlying t = some (.array n e)) (he : P.underlying e = some (.int k)) (hc : P.cellsOf e = 1) (hC : P.cellsOf t = n)
    (hv : Value.okWide P w r b0 t v) (h : DataW.Trod enc P w base spare held t v d p) :
    ∃ (vs : Array Value) (f : Nat → Int), v = .agg vs ∧ vs.size = n ∧ ∀ i, i < n → vs[i]? = some (.int k (f i)) ∧ (Lit.int k (f i)).wf = true := by
  simp only [Value.okWide, ha] at hv
  obtain ⟨vs, rfl, hsz, _⟩ := hv
  have hz : vs.size = n := hsz.trans hC
  obtain ⟨fuel, hfu⟩ := h
  obtain ⟨xs, m, _, _, _, hl, hg⟩ := DataW.trod_array ha hfu
  have one : ∀ i : Nat, i < n → ∃ a : Int, vs[i]? = some (.int k a) ∧ (Lit.int k a).wf = true := by
    intro i hi
    have g := hg i hi
    rw [hc, Nat.mul_one] at g
    have hcs : (Value.agg vs).cells.toList = vs.toList := by simp [Value.cells]
    rw [hcs, List.drop_eq_getElem_cons (by simp; omega), List.take_succ_cons, List.take_zero, List.getElem?_eq_getElem (by omega)] at g
    obtain ⟨a, ea, _, wa⟩ := DataW.trod_int he g
    refine ⟨a, ?_, wa⟩
    rw [Array.getElem?_eq_getElem (by omega)]
    simpa using ea
  have F : ∀ i : Nat, ∃ a : Int, i < n → vs[i]? = some (.int k a) ∧ (Lit.int k a).wf = true := by
    intro i
    by_cases hi : i < n
    · obtain ⟨a, ha⟩ := one i hi
      exact ⟨a, fun _ => ha⟩
    · exact ⟨0, fun h => absurd h hi⟩
  exact ⟨vs, fun i => Classical.choose (F i), rfl, hz, fun i hi => Classical.choose_spec (F i) hi⟩
end
end Go.Mtl
