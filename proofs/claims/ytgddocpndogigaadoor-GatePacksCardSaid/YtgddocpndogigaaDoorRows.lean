/-
  NARROWER THAN 'FOR EVERY INPUT', by the rows' own cells (each row's printed sentence says how): GatePacks: laid · GateMoves: laid · GateBack: laid · GateApart: laid.
  DERIVED. THE GIVEN ROWS OF THIS SEAT. 4 by the template 'for every input the law returns true; each argument reads behind the call as it read before'; 0 by the template 'total and deterministic' (their statements: YtgddocpndogigaaDoorTotals.lean).
  GIVEN WITH THE SEED: the statements are not yours to turn. If you find one false, say at which input.
  Laid BY PROGRAM, IN A SANDBOX (cutbox-rows.mjs): the forced cells as the released guide's own fill.sh prints them over the translation f310323af61b0987… (all of the seat's roots in one cut). By AI agents, Wed Nov 11 2026. No macro, syntax, notation, axiom, sorry.
-/
import Derived.Test.YtgddocpndogigaaDoorChecked
import GoSem.Claim
import GoSem.ClaimJoined
import GoSem.ClaimMapViews
import Derived.JoinedTies
import Derived.KernelRfl
namespace Go.Proofs.YtgddocpndogigaaDoor
/- THE CELL 'sum', in the pinned program and in every row, IS THE sha256 OF THE DUMP (.gsa) THAT YtgddocpndogigaaDoorProg.lean LOADS. Nothing in Lean hashes anything: it is a label: what it is worth is what the hold of that sum in a sandbox is worth. -/
noncomputable def Tryd.pinned : Pinned := { name := "ytgddocpndogigaadoor", sum := "f310323af61b0987a3d2f274fba82aae40df9297f5f92fc528c373bd059d44ed", checked := Tryd.checked }
namespace Rows
def none {H : Type} : Left H := { results := [], args := [] }

/- WHAT THE LISTED PACKAGE-LEVEL VARIABLES READ AS WHEN THE CALL BEGINS. Each datum BY PROGRAM (the guide's laid-datum.mjs) off the statement by which the dump's own 'gosem.cut.vars' lays the variable. In a bare row this is a premise. The card (YtgddocpndogigaaDoorCards.lean) ties it to the program's text. -/
def laid_mantlet_gate_parts {H : Type} : DataW H := .agg [.agg [.lit (.int .i64 0), .lit (.int .i64 40), .lit (.int .i64 1099511627775)], .agg [.lit (.int .i64 40), .lit (.int .i64 12), .lit (.int .i64 4095)], .agg [.lit (.int .i64 52), .lit (.int .i64 12), .lit (.int .i64 4095)]]

/-- 'mantletlaw14.GatePacks': WHATEVER THE INPUT: true; the input reads as it did. -/
def gatePacksSpec : ChangeSpec := { name := "gatePacks", fn := fun _ => fun
  | [d1, d2] => { results := [.lit (.bool true)], args := [d1, d2] }
  | _ => none }
def gatePacksRow : OpenClaim := { program := "ytgddocpndogigaadoor", sum := "f310323af61b0987a3d2f274fba82aae40df9297f5f92fc528c373bd059d44ed", func := "mantlet/mantletlaw14.GatePacks", spec := "gatePacks", named := ["mantlet/gate.parts"], apart := false, laid := [("mantlet/gate.parts", laid_mantlet_gate_parts)] }
def GatePacksSaid : Prop := gatePacksRow.holds Tryd.pinned (OpenSpec.ofChange gatePacksSpec)

/-- ITS FALSE NEIGHBOUR: 'it returns false'. Refute it at one input. -/
def gatePacksWrong : ChangeSpec := { name := "gatePacks", fn := fun _ => fun
  | [d1, d2] => { results := [.lit (.bool false)], args := [d1, d2] }
  | _ => none }
def GatePacksWrongFalsely : Prop := gatePacksRow.holds Tryd.pinned (OpenSpec.ofChange gatePacksWrong)

/-- 'mantletlaw14.GateMoves': WHATEVER THE INPUT: true; the input reads as it did. -/
def gateMovesSpec : ChangeSpec := { name := "gateMoves", fn := fun _ => fun
  | [d1, d2, d3] => { results := [.lit (.bool true)], args := [d1, d2, d3] }
  | _ => none }
def gateMovesRow : OpenClaim := { program := "ytgddocpndogigaadoor", sum := "f310323af61b0987a3d2f274fba82aae40df9297f5f92fc528c373bd059d44ed", func := "mantlet/mantletlaw14.GateMoves", spec := "gateMoves", named := ["mantlet/gate.parts"], apart := false, laid := [("mantlet/gate.parts", laid_mantlet_gate_parts)] }
def GateMovesSaid : Prop := gateMovesRow.holds Tryd.pinned (OpenSpec.ofChange gateMovesSpec)

/-- ITS FALSE NEIGHBOUR: 'it returns false'. Refute it at one input. -/
def gateMovesWrong : ChangeSpec := { name := "gateMoves", fn := fun _ => fun
  | [d1, d2, d3] => { results := [.lit (.bool false)], args := [d1, d2, d3] }
  | _ => none }
def GateMovesWrongFalsely : Prop := gateMovesRow.holds Tryd.pinned (OpenSpec.ofChange gateMovesWrong)

/-- 'mantletlaw14.GateBack': WHATEVER THE INPUT: true; the input reads as it did. -/
def gateBackSpec : ChangeSpec := { name := "gateBack", fn := fun _ => fun
  | [d1, d2] => { results := [.lit (.bool true)], args := [d1, d2] }
  | _ => none }
def gateBackRow : OpenClaim := { program := "ytgddocpndogigaadoor", sum := "f310323af61b0987a3d2f274fba82aae40df9297f5f92fc528c373bd059d44ed", func := "mantlet/mantletlaw14.GateBack", spec := "gateBack", named := ["mantlet/gate.parts"], apart := false, laid := [("mantlet/gate.parts", laid_mantlet_gate_parts)] }
def GateBackSaid : Prop := gateBackRow.holds Tryd.pinned (OpenSpec.ofChange gateBackSpec)

/-- ITS FALSE NEIGHBOUR: 'it returns false'. Refute it at one input. -/
def gateBackWrong : ChangeSpec := { name := "gateBack", fn := fun _ => fun
  | [d1, d2] => { results := [.lit (.bool false)], args := [d1, d2] }
  | _ => none }
def GateBackWrongFalsely : Prop := gateBackRow.holds Tryd.pinned (OpenSpec.ofChange gateBackWrong)

/-- 'mantletlaw14.GateApart': WHATEVER THE INPUT: true; the input reads as it did. -/
def gateApartSpec : ChangeSpec := { name := "gateApart", fn := fun _ => fun
  | [d1, d2, d3] => { results := [.lit (.bool true)], args := [d1, d2, d3] }
  | _ => none }
def gateApartRow : OpenClaim := { program := "ytgddocpndogigaadoor", sum := "f310323af61b0987a3d2f274fba82aae40df9297f5f92fc528c373bd059d44ed", func := "mantlet/mantletlaw14.GateApart", spec := "gateApart", named := ["mantlet/gate.parts"], apart := false, laid := [("mantlet/gate.parts", laid_mantlet_gate_parts)] }
def GateApartSaid : Prop := gateApartRow.holds Tryd.pinned (OpenSpec.ofChange gateApartSpec)

/-- ITS FALSE NEIGHBOUR: 'it returns false'. Refute it at one input. -/
def gateApartWrong : ChangeSpec := { name := "gateApart", fn := fun _ => fun
  | [d1, d2, d3] => { results := [.lit (.bool false)], args := [d1, d2, d3] }
  | _ => none }
def GateApartWrongFalsely : Prop := gateApartRow.holds Tryd.pinned (OpenSpec.ofChange gateApartWrong)

/- THE SECOND FORM. 'bulk': how many values and letters a reading holds, each counted each time it is reached (what is shared counts as often as it is met; a slice's spare places count too). A statement '..UptoSaid' is the law's where the arguments, and the package variables that the reading takes, are together of bulk at most 1048576: NARROWER than '..Said'. Prove '..Said' where nothing that the law and all that it calls make is longer than what came in: it says more and counts as full. Else prove '..UptoSaid'. A law counts once. -/
mutual
def uptoBulk {H : Type} : DataW H → Nat
  | .lit (.string bytes) => bytes.length + 1
  | .lit _ => 1
  | .nil => 1
  | .ptr d => uptoBulk d + 1
  | .slice elems spare => uptoBulkAll elems + uptoBulkAll spare + 1
  | .agg parts => uptoBulkAll parts + 1
  | .iface _ d => uptoBulk d + 1
  | .map entries => uptoBulkEntries entries + 1
  | .held _ => 1
def uptoBulkAll {H : Type} : List (DataW H) → Nat
  | [] => 0
  | d :: r => uptoBulk d + uptoBulkAll r
def uptoBulkEntries {H : Type} : List (Lit × DataW H) → Nat
  | [] => 0
  | x :: r => uptoBulkEntry x + uptoBulkEntries r
def uptoBulkEntry {H : Type} : Lit × DataW H → Nat
  | (.string bytes, d) => bytes.length + uptoBulk d + 1
  | (_, d) => uptoBulk d + 1
 end
def uptoSmall : (H : Type) → List (DataW H) → Bool := fun _ ds => decide (uptoBulkAll ds ≤ 1048576)
def OpenSpec.upto (s : _root_.Go.ChangeSpec) : _root_.Go.OpenSpec := { _root_.Go.OpenSpec.ofChange s with cond := some uptoSmall }

/-- 'mantletlaw14.GatePacks', WHERE WHAT IT READS IS OF BULK AT MOST 1048576: true; the input reads as it did. -/
def gatePacksUptoRow : OpenClaim := { program := "ytgddocpndogigaadoor", sum := "f310323af61b0987a3d2f274fba82aae40df9297f5f92fc528c373bd059d44ed", func := "mantlet/mantletlaw14.GatePacks", spec := "gatePacks", named := ["mantlet/gate.parts"], apart := false, laid := [("mantlet/gate.parts", laid_mantlet_gate_parts)], narrowed := true }
def GatePacksUptoSaid : Prop := gatePacksUptoRow.holds Tryd.pinned (OpenSpec.upto gatePacksSpec)

/-- 'mantletlaw14.GateMoves', WHERE WHAT IT READS IS OF BULK AT MOST 1048576: true; the input reads as it did. -/
def gateMovesUptoRow : OpenClaim := { program := "ytgddocpndogigaadoor", sum := "f310323af61b0987a3d2f274fba82aae40df9297f5f92fc528c373bd059d44ed", func := "mantlet/mantletlaw14.GateMoves", spec := "gateMoves", named := ["mantlet/gate.parts"], apart := false, laid := [("mantlet/gate.parts", laid_mantlet_gate_parts)], narrowed := true }
def GateMovesUptoSaid : Prop := gateMovesUptoRow.holds Tryd.pinned (OpenSpec.upto gateMovesSpec)

/-- 'mantletlaw14.GateBack', WHERE WHAT IT READS IS OF BULK AT MOST 1048576: true; the input reads as it did. -/
def gateBackUptoRow : OpenClaim := { program := "ytgddocpndogigaadoor", sum := "f310323af61b0987a3d2f274fba82aae40df9297f5f92fc528c373bd059d44ed", func := "mantlet/mantletlaw14.GateBack", spec := "gateBack", named := ["mantlet/gate.parts"], apart := false, laid := [("mantlet/gate.parts", laid_mantlet_gate_parts)], narrowed := true }
def GateBackUptoSaid : Prop := gateBackUptoRow.holds Tryd.pinned (OpenSpec.upto gateBackSpec)

/-- 'mantletlaw14.GateApart', WHERE WHAT IT READS IS OF BULK AT MOST 1048576: true; the input reads as it did. -/
def gateApartUptoRow : OpenClaim := { program := "ytgddocpndogigaadoor", sum := "f310323af61b0987a3d2f274fba82aae40df9297f5f92fc528c373bd059d44ed", func := "mantlet/mantletlaw14.GateApart", spec := "gateApart", named := ["mantlet/gate.parts"], apart := false, laid := [("mantlet/gate.parts", laid_mantlet_gate_parts)], narrowed := true }
def GateApartUptoSaid : Prop := gateApartUptoRow.holds Tryd.pinned (OpenSpec.upto gateApartSpec)

end Rows
end Go.Proofs.YtgddocpndogigaaDoor
