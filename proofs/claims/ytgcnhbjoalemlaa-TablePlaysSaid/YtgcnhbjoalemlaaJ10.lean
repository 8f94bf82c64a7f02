/- Several texts of this proof in one file, each in its own namespace. -/
import Derived.Lib.SmallJoins
import Derived.ChangeSame
import Derived.OpenShut
/- An array of integers of one kind, whatever its length, come in by value: its cells. Over any program. -/
set_option linter.unusedVariables false
namespace Go.Mtl
open Go.ChangeShapes Go.WideShapes Go.RowKit
section
variable {H : Type} {enc : TypeId × Value → H} {P : Program} {w : World} {base : Nat} {spare : Nat → Bool} {held : Bool}
end
end Go.Mtl
/- A struct of two arrays of two integers each and one integer, come in by value: its five cells. Over any program. -/
set_option linter.unusedVariables false
namespace Go.Mtl
open Go.ChangeShapes Go.WideShapes Go.RowKit
section
variable {H : Type} {enc : TypeId × Value → H} {P : Program} {w : World} {base : Nat} {spare : Nat → Bool} {held : Bool}
theorem open_two {ta e : TypeId} {k : IntKind} (ha : P.underlying ta = some (.array 2 e)) (he : P.underlying e = some (.int k)) (hc : P.cellsOf e = 1) {n : Nat} {c0 c1 : Value} {x : DataW H × List MemPlace}
    (h : DataW.trod enc P w base spare held n ta [c0, c1] = some x) : ∃ a b : Int, c0 = .int k a ∧ c1 = .int k b ∧ (Lit.int k a).wf = true ∧ (Lit.int k b).wf = true := by
  obtain ⟨xs, m, _, _, _, hl, hg⟩ := DataW.trod_array ha h
  have g0 := hg 0 (by omega)
  have g1 := hg 1 (by omega)
  rw [hc] at g0 g1
  simp only [Nat.zero_mul, Nat.one_mul, List.drop_zero, List.take_succ_cons, List.take_zero, List.drop_succ_cons] at g0 g1
  rw [List.getElem?_eq_getElem (by omega)] at g0 g1
  obtain ⟨a, ea, _, wa⟩ := DataW.trod_int he g0
  obtain ⟨b, eb, _, wb⟩ := DataW.trod_int he g1
  exact ⟨a, b, by simpa using ea, by simpa using eb, wa, wb⟩
end
end Go.Mtl
