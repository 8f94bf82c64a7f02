/- Layer 18: powers of two, by bits.OnesCount. -/
import Derived.Test.YtgcnhbjoalemlaaKeyM
import Derived.Test.YtgcnhbjoalemlaaRows
import Derived.Test.YtgcnhbjoalemlaaJ5
import Derived.WalkKit
import Derived.ProofKit
import Derived.OpenShut
import Derived.BigQuiet
import Derived.Laws.BitsAllLaws
set_option linter.unusedVariables false
set_option linter.unusedSimpArgs false
set_option maxRecDepth 100000
namespace Go.Proofs.Ytgcnhbjoalemlaa
open Go.ChangeShapes Go.WideShapes Go.ChangeAt Go.RowKit Go.Mtl Go.Lib
namespace Au

/-- The steps of the count of ones. -/
def o1 (x : Int) : Int := IntKind.u64.wrap (bits .and .u64 (x / 2) 6148914691236517205 + bits .and .u64 x 6148914691236517205)
def o2 (x : Int) : Int := IntKind.u64.wrap (bits .and .u64 (x / 4) 3689348814741910323 + bits .and .u64 x 3689348814741910323)
def o3 (x : Int) : Int := bits .and .u64 (IntKind.u64.wrap (x / 16 + x)) 1085102592571150095
def o4 (x : Int) : Int := IntKind.u64.wrap (x + x / 256)
def o5 (x : Int) : Int := IntKind.u64.wrap (x + x / 65536)
def o6 (x : Int) : Int := IntKind.u64.wrap (x + x / 4294967296)
def o7 (x : Int) : Int := bits .and .i64 (wrap64 x) 127
def ones (x : Int) : Int := o7 (o6 (o5 (o4 (o3 (o2 (o1 x))))))
theorem ones_any (x : Int) (w : World) : Calls Try.prog 49 #[.int .u64 x] w fun e w' => e = .returned (.int .i64 (ones x)) ∧ w = w' := by
  unfold ones
  have h1 : IntKind.u64.wrap (bits .and .u64 (x / 2) 6148914691236517205 + bits .and .u64 x 6148914691236517205) = o1 x := rfl
  generalize o1 x = y1 at h1
  have h2 : IntKind.u64.wrap (bits .and .u64 (y1 / 4) 3689348814741910323 + bits .and .u64 y1 3689348814741910323) = o2 y1 := rfl
  generalize o2 y1 = y2 at h2
  have h3 : bits .and .u64 (IntKind.u64.wrap (y2 / 16 + y2)) 1085102592571150095 = o3 y2 := rfl
  generalize o3 y2 = y3 at h3
  have h4 : IntKind.u64.wrap (y3 + y3 / 256) = o4 y3 := rfl
  generalize o4 y3 = y4 at h4
  have h5 : IntKind.u64.wrap (y4 + y4 / 65536) = o5 y4 := rfl
  generalize o5 y4 = y5 at h5
  have h6 : IntKind.u64.wrap (y5 + y5 / 4294967296) = o6 y5 := rfl
  generalize o6 y5 = y6 at h6
  have h7 : bits .and .i64 (wrap64 y6) 127 = o7 y6 := rfl
  generalize o7 y6 = y7 at h7
  go_enter Try.func49, Try.ntmps49
  go_wp2_with fail
  go_ret
  exact ⟨rfl, rfl⟩
theorem ones_pow : ∀ n : Fin 4097, (ones (n.val : Int) == 1) = KeyM.isPow (n.val : Int) := by decide +kernel
end Au
end Go.Proofs.Ytgcnhbjoalemlaa
