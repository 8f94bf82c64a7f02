/- Several texts of this proof in one file, each in its own namespace. -/
import Derived.Lib.SmallJoins
import Derived.ChangeSame
import Derived.OpenShut
/- An array of integers of one kind, whatever its length, come in by value: its cells. Over any program. -/
set_option linter.unusedVariables false
namespace Go.Mtl
open Go.ChangeShapes Go.WideShapes Go.RowKit
section
variable {H : Type} {enc : TypeId × Value → H} {P : Program} {w : World} {base : Nat} {spare : Nat → Bool} {held : Bool}
end
end Go.Mtl
/- A struct of two arrays of two integers each and one integer, come in by value: its five cells. Over any program. -/
set_option linter.unusedVariables false
namespace Go.Mtl
open Go.ChangeShapes Go.WideShapes Go.RowKit
section
variable {H : Type} {enc : TypeId × Value → H} {P : Program} {w : World} {base : Nat} {spare : Nat → Bool} {held : Bool}
end
end Go.Mtl
