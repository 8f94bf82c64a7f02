/-
  NARROWER THAN 'FOR EVERY INPUT', by the rows' own cells (each row's printed sentence says how): PackBuilds: laid · PackBack: laid · PackUnlike: laid.
  DERIVED. THE GIVEN ROWS OF THIS SEAT. 3 by the template 'for every input the law returns true; each argument reads behind the call as it read before'; 0 by the template 'total and deterministic' (their statements: YtapcjjhbdhkhhaaDoorTotals.lean).
  GIVEN WITH THE SEED: the statements are not yours to turn. If you find one false, say at which input.
  Laid BY PROGRAM, IN A SANDBOX (cutbox-rows.mjs): the forced cells as the released guide's own fill.sh prints them over the translation c31aaa6558258abf… (all of the seat's roots in one cut). By AI agents, Wed Nov 11 2026. No macro, syntax, notation, axiom, sorry.
-/
import Derived.Test.YtapcjjhbdhkhhaaDoorChecked
import GoSem.Claim
import GoSem.ClaimJoined
import GoSem.ClaimMapViews
import Derived.JoinedTies
import Derived.KernelRfl
namespace Go.Proofs.YtapcjjhbdhkhhaaDoor
/- THE CELL 'sum', in the pinned program and in every row, IS THE sha256 OF THE DUMP (.gsa) THAT YtapcjjhbdhkhhaaDoorProg.lean LOADS. Nothing in Lean hashes anything: it is a label: what it is worth is what the hold of that sum in a sandbox is worth. -/
noncomputable def Tryd.pinned : Pinned := { name := "ytapcjjhbdhkhhaadoor", sum := "c31aaa6558258abf0d2d50aeb096c56159bf8d3050ba789407795b484412a6c7", checked := Tryd.checked }
namespace Rows
def none {H : Type} : Left H := { results := [], args := [] }

/- WHAT THE LISTED PACKAGE-LEVEL VARIABLES READ AS WHEN THE CALL BEGINS. Each datum BY PROGRAM (the guide's laid-datum.mjs) off the statement by which the dump's own 'gosem.cut.vars' lays the variable. In a bare row this is a premise. The card (YtapcjjhbdhkhhaaDoorCards.lean) ties it to the program's text. -/
def laid_mantlet_tcp_consistent {H : Type} : DataW H := .agg [.agg [.lit (.int .u8 7), .lit (.int .u8 2)], .agg [.lit (.int .u8 7), .lit (.int .u8 4)], .agg [.lit (.int .u8 22), .lit (.int .u8 16)]]

/-- 'mantletlaw09.PackBuilds': WHATEVER THE INPUT: true; the input reads as it did. -/
def packBuildsSpec : ChangeSpec := { name := "packBuilds", fn := fun _ => fun
  | [d1, d2] => { results := [.lit (.bool true)], args := [d1, d2] }
  | _ => none }
def packBuildsRow : OpenClaim := { program := "ytapcjjhbdhkhhaadoor", sum := "c31aaa6558258abf0d2d50aeb096c56159bf8d3050ba789407795b484412a6c7", func := "mantlet/mantletlaw09.PackBuilds", spec := "packBuilds", named := ["mantlet/tcp.consistent"], apart := false, laid := [("mantlet/tcp.consistent", laid_mantlet_tcp_consistent)] }
def PackBuildsSaid : Prop := packBuildsRow.holds Tryd.pinned (OpenSpec.ofChange packBuildsSpec)

/-- ITS FALSE NEIGHBOUR: 'it returns false'. Refute it at one input. -/
def packBuildsWrong : ChangeSpec := { name := "packBuilds", fn := fun _ => fun
  | [d1, d2] => { results := [.lit (.bool false)], args := [d1, d2] }
  | _ => none }
def PackBuildsWrongFalsely : Prop := packBuildsRow.holds Tryd.pinned (OpenSpec.ofChange packBuildsWrong)

/-- 'mantletlaw09.PackBack': WHATEVER THE INPUT: true; the input reads as it did. -/
def packBackSpec : ChangeSpec := { name := "packBack", fn := fun _ => fun
  | [d1, d2, d3] => { results := [.lit (.bool true)], args := [d1, d2, d3] }
  | _ => none }
def packBackRow : OpenClaim := { program := "ytapcjjhbdhkhhaadoor", sum := "c31aaa6558258abf0d2d50aeb096c56159bf8d3050ba789407795b484412a6c7", func := "mantlet/mantletlaw09.PackBack", spec := "packBack", named := ["mantlet/tcp.consistent"], apart := false, laid := [("mantlet/tcp.consistent", laid_mantlet_tcp_consistent)] }
def PackBackSaid : Prop := packBackRow.holds Tryd.pinned (OpenSpec.ofChange packBackSpec)

/-- ITS FALSE NEIGHBOUR: 'it returns false'. Refute it at one input. -/
def packBackWrong : ChangeSpec := { name := "packBack", fn := fun _ => fun
  | [d1, d2, d3] => { results := [.lit (.bool false)], args := [d1, d2, d3] }
  | _ => none }
def PackBackWrongFalsely : Prop := packBackRow.holds Tryd.pinned (OpenSpec.ofChange packBackWrong)

/-- 'mantletlaw09.PackUnlike': WHATEVER THE INPUT: true; the input reads as it did. -/
def packUnlikeSpec : ChangeSpec := { name := "packUnlike", fn := fun _ => fun
  | [d1, d2, d3, d4] => { results := [.lit (.bool true)], args := [d1, d2, d3, d4] }
  | _ => none }
def packUnlikeRow : OpenClaim := { program := "ytapcjjhbdhkhhaadoor", sum := "c31aaa6558258abf0d2d50aeb096c56159bf8d3050ba789407795b484412a6c7", func := "mantlet/mantletlaw09.PackUnlike", spec := "packUnlike", named := ["mantlet/tcp.consistent"], apart := false, laid := [("mantlet/tcp.consistent", laid_mantlet_tcp_consistent)] }
def PackUnlikeSaid : Prop := packUnlikeRow.holds Tryd.pinned (OpenSpec.ofChange packUnlikeSpec)

/-- ITS FALSE NEIGHBOUR: 'it returns false'. Refute it at one input. -/
def packUnlikeWrong : ChangeSpec := { name := "packUnlike", fn := fun _ => fun
  | [d1, d2, d3, d4] => { results := [.lit (.bool false)], args := [d1, d2, d3, d4] }
  | _ => none }
def PackUnlikeWrongFalsely : Prop := packUnlikeRow.holds Tryd.pinned (OpenSpec.ofChange packUnlikeWrong)

/- THE SECOND FORM. 'bulk': how many values and letters a reading holds, each counted each time it is reached (what is shared counts as often as it is met; a slice's spare places count too). A statement '..UptoSaid' is the law's where the arguments, and the package variables that the reading takes, are together of bulk at most 1048576: NARROWER than '..Said'. Prove '..Said' where nothing that the law and all that it calls make is longer than what came in: it says more and counts as full. Else prove '..UptoSaid'. A law counts once. -/
mutual
def uptoBulk {H : Type} : DataW H → Nat
  | .lit (.string bytes) => bytes.length + 1
  | .lit _ => 1
  | .nil => 1
  | .ptr d => uptoBulk d + 1
  | .slice elems spare => uptoBulkAll elems + uptoBulkAll spare + 1
  | .agg parts => uptoBulkAll parts + 1
  | .iface _ d => uptoBulk d + 1
  | .map entries => uptoBulkEntries entries + 1
  | .held _ => 1
def uptoBulkAll {H : Type} : List (DataW H) → Nat
  | [] => 0
  | d :: r => uptoBulk d + uptoBulkAll r
def uptoBulkEntries {H : Type} : List (Lit × DataW H) → Nat
  | [] => 0
  | x :: r => uptoBulkEntry x + uptoBulkEntries r
def uptoBulkEntry {H : Type} : Lit × DataW H → Nat
  | (.string bytes, d) => bytes.length + uptoBulk d + 1
  | (_, d) => uptoBulk d + 1
 end
def uptoSmall : (H : Type) → List (DataW H) → Bool := fun _ ds => decide (uptoBulkAll ds ≤ 1048576)
def OpenSpec.upto (s : _root_.Go.ChangeSpec) : _root_.Go.OpenSpec := { _root_.Go.OpenSpec.ofChange s with cond := some uptoSmall }

/-- 'mantletlaw09.PackBuilds', WHERE WHAT IT READS IS OF BULK AT MOST 1048576: true; the input reads as it did. -/
def packBuildsUptoRow : OpenClaim := { program := "ytapcjjhbdhkhhaadoor", sum := "c31aaa6558258abf0d2d50aeb096c56159bf8d3050ba789407795b484412a6c7", func := "mantlet/mantletlaw09.PackBuilds", spec := "packBuilds", named := ["mantlet/tcp.consistent"], apart := false, laid := [("mantlet/tcp.consistent", laid_mantlet_tcp_consistent)], narrowed := true }
def PackBuildsUptoSaid : Prop := packBuildsUptoRow.holds Tryd.pinned (OpenSpec.upto packBuildsSpec)

/-- 'mantletlaw09.PackBack', WHERE WHAT IT READS IS OF BULK AT MOST 1048576: true; the input reads as it did. -/
def packBackUptoRow : OpenClaim := { program := "ytapcjjhbdhkhhaadoor", sum := "c31aaa6558258abf0d2d50aeb096c56159bf8d3050ba789407795b484412a6c7", func := "mantlet/mantletlaw09.PackBack", spec := "packBack", named := ["mantlet/tcp.consistent"], apart := false, laid := [("mantlet/tcp.consistent", laid_mantlet_tcp_consistent)], narrowed := true }
def PackBackUptoSaid : Prop := packBackUptoRow.holds Tryd.pinned (OpenSpec.upto packBackSpec)

/-- 'mantletlaw09.PackUnlike', WHERE WHAT IT READS IS OF BULK AT MOST 1048576: true; the input reads as it did. -/
def packUnlikeUptoRow : OpenClaim := { program := "ytapcjjhbdhkhhaadoor", sum := "c31aaa6558258abf0d2d50aeb096c56159bf8d3050ba789407795b484412a6c7", func := "mantlet/mantletlaw09.PackUnlike", spec := "packUnlike", named := ["mantlet/tcp.consistent"], apart := false, laid := [("mantlet/tcp.consistent", laid_mantlet_tcp_consistent)], narrowed := true }
def PackUnlikeUptoSaid : Prop := packUnlikeUptoRow.holds Tryd.pinned (OpenSpec.upto packUnlikeSpec)

end Rows
end Go.Proofs.YtapcjjhbdhkhhaaDoor
