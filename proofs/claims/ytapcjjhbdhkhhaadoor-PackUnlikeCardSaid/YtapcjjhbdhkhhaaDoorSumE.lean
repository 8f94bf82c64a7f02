/- Contracts of Edit, of package sum and of its reference. -/
import Derived.Test.YtapcjjhbdhkhhaaDoorRows
import Derived.Test.YtapcjjhbdhkhhaaDoorSumA
import Derived.WalkKit
import Derived.ProofKit
import Derived.OpenShut
import Derived.BigQuiet
import Derived.Deep.RegionWith
import Derived.Lib.Hide
set_option linter.unusedVariables false
namespace Go.Proofs.YtapcjjhbdhkhhaaDoor
open Go.ChangeShapes Go.WideShapes Go.ChangeAt Go.RowKit Go.Mtl
namespace Sm
open SumM (norm add upto norm_big norm_small add_le upto_zero upto_le upto_step upto_word upto_last upto_done norm_le)

/-- An edited checksum. -/
def edit (k a b : Nat) : Nat := 65535 - norm (norm ((65535 - k) + (65535 - a)) + b)
theorem edit_le (k a b : Nat) : edit k a b ≤ 65535 := by unfold edit; omega
end Sm
end Go.Proofs.YtapcjjhbdhkhhaaDoor
