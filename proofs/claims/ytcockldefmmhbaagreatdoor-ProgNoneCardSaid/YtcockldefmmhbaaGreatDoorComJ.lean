import Derived.Test.YtcockldefmmhbaaGreatDoorRows
import Derived.WalkKit
import Derived.ProofKit
import Derived.RegionTactic
set_option linter.unusedVariables false
set_option linter.unusedSimpArgs false
namespace Go.Proofs.YtcockldefmmhbaaGreatDoor
namespace Pool
section
variable {P:Program} {md:Region.Mode} {ops:Array Oper} {Q:Exit->Act->World->Prop}
def inB (md:Region.Mode) (ops:Array Oper) (L:Array Bool) (pool:List Nat):Bool:=pool.all fun i=>(Region.ready md ops L).contains i
end
end Pool
end Go.Proofs.YtcockldefmmhbaaGreatDoor
