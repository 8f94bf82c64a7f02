/-
  NARROWER THAN 'FOR EVERY INPUT', by the rows' own cells (each row's printed sentence says how): WireParses: laid · WireSane: laid · WireBehind: laid.
  DERIVED. THE GIVEN ROWS OF THIS SEAT. 3 by the template 'for every input the law returns true; each argument reads behind the call as it read before'; 0 by the template 'total and deterministic' (their statements: YtjbdjplliieelaaDoorTotals.lean).
  GIVEN WITH THE SEED: the statements are not yours to turn. If you find one false, say at which input.
  Laid BY PROGRAM, IN A SANDBOX (cutbox-rows.mjs): the forced cells as the released guide's own fill.sh prints them over the translation 1b189e26a3295403… (all of the seat's roots in one cut). By AI agents, Wed Nov 11 2026. No macro, syntax, notation, axiom, sorry.
-/
import Derived.Test.YtjbdjplliieelaaDoorChecked
import GoSem.Claim
import GoSem.ClaimJoined
import GoSem.ClaimMapViews
import Derived.JoinedTies
import Derived.KernelRfl
namespace Go.Proofs.YtjbdjplliieelaaDoor
/- THE CELL 'sum', in the pinned program and in every row, IS THE sha256 OF THE DUMP (.gsa) THAT YtjbdjplliieelaaDoorProg.lean LOADS. Nothing in Lean hashes anything: it is a label: what it is worth is what the hold of that sum in a sandbox is worth. -/
noncomputable def Tryd.pinned : Pinned := { name := "ytjbdjplliieelaadoor", sum := "1b189e26a32954031e2aa52cc2af034406403666b0fb171bf67655d531c681a4", checked := Tryd.checked }
namespace Rows
def none {H : Type} : Left H := { results := [], args := [] }

/- WHAT THE LISTED PACKAGE-LEVEL VARIABLES READ AS WHEN THE CALL BEGINS. Each datum BY PROGRAM (the guide's laid-datum.mjs) off the statement by which the dump's own 'gosem.cut.vars' lays the variable. In a bare row this is a premise. The card (YtjbdjplliieelaaDoorCards.lean) ties it to the program's text. -/
def laid_mantlet_tcp_consistent {H : Type} : DataW H := .agg [.agg [.lit (.int .u8 7), .lit (.int .u8 2)], .agg [.lit (.int .u8 7), .lit (.int .u8 4)], .agg [.lit (.int .u8 22), .lit (.int .u8 16)]]

/-- 'mantletlaw08.WireParses': WHATEVER THE INPUT: true; the input reads as it did. -/
def wireParsesSpec : ChangeSpec := { name := "wireParses", fn := fun _ => fun
  | [d] => { results := [.lit (.bool true)], args := [d] }
  | _ => none }
def wireParsesRow : OpenClaim := { program := "ytjbdjplliieelaadoor", sum := "1b189e26a32954031e2aa52cc2af034406403666b0fb171bf67655d531c681a4", func := "mantlet/mantletlaw08.WireParses", spec := "wireParses", named := ["mantlet/tcp.consistent"], apart := false, laid := [("mantlet/tcp.consistent", laid_mantlet_tcp_consistent)] }
def WireParsesSaid : Prop := wireParsesRow.holds Tryd.pinned (OpenSpec.ofChange wireParsesSpec)

/-- ITS FALSE NEIGHBOUR: 'it returns false'. Refute it at one input. -/
def wireParsesWrong : ChangeSpec := { name := "wireParses", fn := fun _ => fun
  | [d] => { results := [.lit (.bool false)], args := [d] }
  | _ => none }
def WireParsesWrongFalsely : Prop := wireParsesRow.holds Tryd.pinned (OpenSpec.ofChange wireParsesWrong)

/-- 'mantletlaw08.WireSane': WHATEVER THE INPUT: true; the input reads as it did. -/
def wireSaneSpec : ChangeSpec := { name := "wireSane", fn := fun _ => fun
  | [d] => { results := [.lit (.bool true)], args := [d] }
  | _ => none }
def wireSaneRow : OpenClaim := { program := "ytjbdjplliieelaadoor", sum := "1b189e26a32954031e2aa52cc2af034406403666b0fb171bf67655d531c681a4", func := "mantlet/mantletlaw08.WireSane", spec := "wireSane", named := ["mantlet/tcp.consistent"], apart := false, laid := [("mantlet/tcp.consistent", laid_mantlet_tcp_consistent)] }
def WireSaneSaid : Prop := wireSaneRow.holds Tryd.pinned (OpenSpec.ofChange wireSaneSpec)

/-- ITS FALSE NEIGHBOUR: 'it returns false'. Refute it at one input. -/
def wireSaneWrong : ChangeSpec := { name := "wireSane", fn := fun _ => fun
  | [d] => { results := [.lit (.bool false)], args := [d] }
  | _ => none }
def WireSaneWrongFalsely : Prop := wireSaneRow.holds Tryd.pinned (OpenSpec.ofChange wireSaneWrong)

/-- 'mantletlaw08.WireBehind': WHATEVER THE INPUT: true; the input reads as it did. -/
def wireBehindSpec : ChangeSpec := { name := "wireBehind", fn := fun _ => fun
  | [d1, d2] => { results := [.lit (.bool true)], args := [d1, d2] }
  | _ => none }
def wireBehindRow : OpenClaim := { program := "ytjbdjplliieelaadoor", sum := "1b189e26a32954031e2aa52cc2af034406403666b0fb171bf67655d531c681a4", func := "mantlet/mantletlaw08.WireBehind", spec := "wireBehind", named := ["mantlet/tcp.consistent"], apart := false, laid := [("mantlet/tcp.consistent", laid_mantlet_tcp_consistent)] }
def WireBehindSaid : Prop := wireBehindRow.holds Tryd.pinned (OpenSpec.ofChange wireBehindSpec)

/-- ITS FALSE NEIGHBOUR: 'it returns false'. Refute it at one input. -/
def wireBehindWrong : ChangeSpec := { name := "wireBehind", fn := fun _ => fun
  | [d1, d2] => { results := [.lit (.bool false)], args := [d1, d2] }
  | _ => none }
def WireBehindWrongFalsely : Prop := wireBehindRow.holds Tryd.pinned (OpenSpec.ofChange wireBehindWrong)

/- THE SECOND FORM. 'bulk': how many values and letters a reading holds, each counted each time it is reached (what is shared counts as often as it is met; a slice's spare places count too). A statement '..UptoSaid' is the law's where the arguments, and the package variables that the reading takes, are together of bulk at most 1048576: NARROWER than '..Said'. Prove '..Said' where nothing that the law and all that it calls make is longer than what came in: it says more and counts as full. Else prove '..UptoSaid'. A law counts once. -/
mutual
def uptoBulk {H : Type} : DataW H → Nat
  | .lit (.string bytes) => bytes.length + 1
  | .lit _ => 1
  | .nil => 1
  | .ptr d => uptoBulk d + 1
  | .slice elems spare => uptoBulkAll elems + uptoBulkAll spare + 1
  | .agg parts => uptoBulkAll parts + 1
  | .iface _ d => uptoBulk d + 1
  | .map entries => uptoBulkEntries entries + 1
  | .held _ => 1
def uptoBulkAll {H : Type} : List (DataW H) → Nat
  | [] => 0
  | d :: r => uptoBulk d + uptoBulkAll r
def uptoBulkEntries {H : Type} : List (Lit × DataW H) → Nat
  | [] => 0
  | x :: r => uptoBulkEntry x + uptoBulkEntries r
def uptoBulkEntry {H : Type} : Lit × DataW H → Nat
  | (.string bytes, d) => bytes.length + uptoBulk d + 1
  | (_, d) => uptoBulk d + 1
 end
def uptoSmall : (H : Type) → List (DataW H) → Bool := fun _ ds => decide (uptoBulkAll ds ≤ 1048576)
def OpenSpec.upto (s : _root_.Go.ChangeSpec) : _root_.Go.OpenSpec := { _root_.Go.OpenSpec.ofChange s with cond := some uptoSmall }

/-- 'mantletlaw08.WireParses', WHERE WHAT IT READS IS OF BULK AT MOST 1048576: true; the input reads as it did. -/
def wireParsesUptoRow : OpenClaim := { program := "ytjbdjplliieelaadoor", sum := "1b189e26a32954031e2aa52cc2af034406403666b0fb171bf67655d531c681a4", func := "mantlet/mantletlaw08.WireParses", spec := "wireParses", named := ["mantlet/tcp.consistent"], apart := false, laid := [("mantlet/tcp.consistent", laid_mantlet_tcp_consistent)], narrowed := true }
def WireParsesUptoSaid : Prop := wireParsesUptoRow.holds Tryd.pinned (OpenSpec.upto wireParsesSpec)

/-- 'mantletlaw08.WireSane', WHERE WHAT IT READS IS OF BULK AT MOST 1048576: true; the input reads as it did. -/
def wireSaneUptoRow : OpenClaim := { program := "ytjbdjplliieelaadoor", sum := "1b189e26a32954031e2aa52cc2af034406403666b0fb171bf67655d531c681a4", func := "mantlet/mantletlaw08.WireSane", spec := "wireSane", named := ["mantlet/tcp.consistent"], apart := false, laid := [("mantlet/tcp.consistent", laid_mantlet_tcp_consistent)], narrowed := true }
def WireSaneUptoSaid : Prop := wireSaneUptoRow.holds Tryd.pinned (OpenSpec.upto wireSaneSpec)

/-- 'mantletlaw08.WireBehind', WHERE WHAT IT READS IS OF BULK AT MOST 1048576: true; the input reads as it did. -/
def wireBehindUptoRow : OpenClaim := { program := "ytjbdjplliieelaadoor", sum := "1b189e26a32954031e2aa52cc2af034406403666b0fb171bf67655d531c681a4", func := "mantlet/mantletlaw08.WireBehind", spec := "wireBehind", named := ["mantlet/tcp.consistent"], apart := false, laid := [("mantlet/tcp.consistent", laid_mantlet_tcp_consistent)], narrowed := true }
def WireBehindUptoSaid : Prop := wireBehindUptoRow.holds Tryd.pinned (OpenSpec.upto wireBehindSpec)

end Rows
end Go.Proofs.YtjbdjplliieelaaDoor
