/-
  NARROWER THAN 'FOR EVERY INPUT', by the rows' own cells (each row's printed sentence says how): TcpParses: laid · TcpBuilds: laid · TcpBack: laid · TcpFlags: laid.
  DERIVED. THE GIVEN ROWS OF THIS SEAT. 4 by the template 'for every input the law returns true; each argument reads behind the call as it read before'; 0 by the template 'total and deterministic' (their statements: YthamemjkdjambaaDoorTotals.lean).
  GIVEN WITH THE SEED: the statements are not yours to turn. If you find one false, say at which input.
  Laid BY PROGRAM, IN A SANDBOX (cutbox-rows.mjs): the forced cells as the released guide's own fill.sh prints them over the translation c017c5299d0938a2… (all of the seat's roots in one cut). By AI agents, Wed Nov 11 2026. No macro, syntax, notation, axiom, sorry.
-/
import Derived.Test.YthamemjkdjambaaDoorChecked
import GoSem.Claim
import GoSem.ClaimJoined
import GoSem.ClaimMapViews
import Derived.JoinedTies
import Derived.KernelRfl
namespace Go.Proofs.YthamemjkdjambaaDoor
/- THE CELL 'sum', in the pinned program and in every row, IS THE sha256 OF THE DUMP (.gsa) THAT YthamemjkdjambaaDoorProg.lean LOADS. Nothing in Lean hashes anything: it is a label: what it is worth is what the hold of that sum in a sandbox is worth. -/
noncomputable def Tryd.pinned : Pinned := { name := "ythamemjkdjambaadoor", sum := "c017c5299d0938a251c995d6f6c5640452f11608fafdfb2c629002f8f808420c", checked := Tryd.checked }
namespace Rows
def none {H : Type} : Left H := { results := [], args := [] }

/- WHAT THE LISTED PACKAGE-LEVEL VARIABLES READ AS WHEN THE CALL BEGINS. Each datum BY PROGRAM (the guide's laid-datum.mjs) off the statement by which the dump's own 'gosem.cut.vars' lays the variable. In a bare row this is a premise. The card (YthamemjkdjambaaDoorCards.lean) ties it to the program's text. -/
def laid_mantlet_tcp_consistent {H : Type} : DataW H := .agg [.agg [.lit (.int .u8 7), .lit (.int .u8 2)], .agg [.lit (.int .u8 7), .lit (.int .u8 4)], .agg [.lit (.int .u8 22), .lit (.int .u8 16)]]

/-- 'mantletlaw05.TcpParses': WHATEVER THE INPUT: true; the input reads as it did. -/
def tcpParsesSpec : ChangeSpec := { name := "tcpParses", fn := fun _ => fun
  | [d1, d2, d3] => { results := [.lit (.bool true)], args := [d1, d2, d3] }
  | _ => none }
def tcpParsesRow : OpenClaim := { program := "ythamemjkdjambaadoor", sum := "c017c5299d0938a251c995d6f6c5640452f11608fafdfb2c629002f8f808420c", func := "mantlet/mantletlaw05.TcpParses", spec := "tcpParses", named := ["mantlet/tcp.consistent"], apart := false, laid := [("mantlet/tcp.consistent", laid_mantlet_tcp_consistent)] }
def TcpParsesSaid : Prop := tcpParsesRow.holds Tryd.pinned (OpenSpec.ofChange tcpParsesSpec)

/-- ITS FALSE NEIGHBOUR: 'it returns false'. Refute it at one input. -/
def tcpParsesWrong : ChangeSpec := { name := "tcpParses", fn := fun _ => fun
  | [d1, d2, d3] => { results := [.lit (.bool false)], args := [d1, d2, d3] }
  | _ => none }
def TcpParsesWrongFalsely : Prop := tcpParsesRow.holds Tryd.pinned (OpenSpec.ofChange tcpParsesWrong)

/-- 'mantletlaw05.TcpBuilds': WHATEVER THE INPUT: true; the input reads as it did. -/
def tcpBuildsSpec : ChangeSpec := { name := "tcpBuilds", fn := fun _ => fun
  | [d1, d2, d3, d4, d5, d6, d7, d8] => { results := [.lit (.bool true)], args := [d1, d2, d3, d4, d5, d6, d7, d8] }
  | _ => none }
def tcpBuildsRow : OpenClaim := { program := "ythamemjkdjambaadoor", sum := "c017c5299d0938a251c995d6f6c5640452f11608fafdfb2c629002f8f808420c", func := "mantlet/mantletlaw05.TcpBuilds", spec := "tcpBuilds", named := ["mantlet/tcp.consistent"], apart := false, laid := [("mantlet/tcp.consistent", laid_mantlet_tcp_consistent)] }
def TcpBuildsSaid : Prop := tcpBuildsRow.holds Tryd.pinned (OpenSpec.ofChange tcpBuildsSpec)

/-- ITS FALSE NEIGHBOUR: 'it returns false'. Refute it at one input. -/
def tcpBuildsWrong : ChangeSpec := { name := "tcpBuilds", fn := fun _ => fun
  | [d1, d2, d3, d4, d5, d6, d7, d8] => { results := [.lit (.bool false)], args := [d1, d2, d3, d4, d5, d6, d7, d8] }
  | _ => none }
def TcpBuildsWrongFalsely : Prop := tcpBuildsRow.holds Tryd.pinned (OpenSpec.ofChange tcpBuildsWrong)

/-- 'mantletlaw05.TcpBack': WHATEVER THE INPUT: true; the input reads as it did. -/
def tcpBackSpec : ChangeSpec := { name := "tcpBack", fn := fun _ => fun
  | [d1, d2, d3, d4, d5, d6, d7] => { results := [.lit (.bool true)], args := [d1, d2, d3, d4, d5, d6, d7] }
  | _ => none }
def tcpBackRow : OpenClaim := { program := "ythamemjkdjambaadoor", sum := "c017c5299d0938a251c995d6f6c5640452f11608fafdfb2c629002f8f808420c", func := "mantlet/mantletlaw05.TcpBack", spec := "tcpBack", named := ["mantlet/tcp.consistent"], apart := false, laid := [("mantlet/tcp.consistent", laid_mantlet_tcp_consistent)] }
def TcpBackSaid : Prop := tcpBackRow.holds Tryd.pinned (OpenSpec.ofChange tcpBackSpec)

/-- ITS FALSE NEIGHBOUR: 'it returns false'. Refute it at one input. -/
def tcpBackWrong : ChangeSpec := { name := "tcpBack", fn := fun _ => fun
  | [d1, d2, d3, d4, d5, d6, d7] => { results := [.lit (.bool false)], args := [d1, d2, d3, d4, d5, d6, d7] }
  | _ => none }
def TcpBackWrongFalsely : Prop := tcpBackRow.holds Tryd.pinned (OpenSpec.ofChange tcpBackWrong)

/-- 'mantletlaw05.TcpFlags': WHATEVER THE INPUT: true; the input reads as it did. -/
def tcpFlagsSpec : ChangeSpec := { name := "tcpFlags", fn := fun _ => fun
  | [d] => { results := [.lit (.bool true)], args := [d] }
  | _ => none }
def tcpFlagsRow : OpenClaim := { program := "ythamemjkdjambaadoor", sum := "c017c5299d0938a251c995d6f6c5640452f11608fafdfb2c629002f8f808420c", func := "mantlet/mantletlaw05.TcpFlags", spec := "tcpFlags", named := ["mantlet/tcp.consistent"], apart := false, laid := [("mantlet/tcp.consistent", laid_mantlet_tcp_consistent)] }
def TcpFlagsSaid : Prop := tcpFlagsRow.holds Tryd.pinned (OpenSpec.ofChange tcpFlagsSpec)

/-- ITS FALSE NEIGHBOUR: 'it returns false'. Refute it at one input. -/
def tcpFlagsWrong : ChangeSpec := { name := "tcpFlags", fn := fun _ => fun
  | [d] => { results := [.lit (.bool false)], args := [d] }
  | _ => none }
def TcpFlagsWrongFalsely : Prop := tcpFlagsRow.holds Tryd.pinned (OpenSpec.ofChange tcpFlagsWrong)

/- THE SECOND FORM. 'bulk': how many values and letters a reading holds, each counted each time it is reached (what is shared counts as often as it is met; a slice's spare places count too). A statement '..UptoSaid' is the law's where the arguments, and the package variables that the reading takes, are together of bulk at most 1048576: NARROWER than '..Said'. Prove '..Said' where nothing that the law and all that it calls make is longer than what came in: it says more and counts as full. Else prove '..UptoSaid'. A law counts once. -/
mutual
def uptoBulk {H : Type} : DataW H → Nat
  | .lit (.string bytes) => bytes.length + 1
  | .lit _ => 1
  | .nil => 1
  | .ptr d => uptoBulk d + 1
  | .slice elems spare => uptoBulkAll elems + uptoBulkAll spare + 1
  | .agg parts => uptoBulkAll parts + 1
  | .iface _ d => uptoBulk d + 1
  | .map entries => uptoBulkEntries entries + 1
  | .held _ => 1
def uptoBulkAll {H : Type} : List (DataW H) → Nat
  | [] => 0
  | d :: r => uptoBulk d + uptoBulkAll r
def uptoBulkEntries {H : Type} : List (Lit × DataW H) → Nat
  | [] => 0
  | x :: r => uptoBulkEntry x + uptoBulkEntries r
def uptoBulkEntry {H : Type} : Lit × DataW H → Nat
  | (.string bytes, d) => bytes.length + uptoBulk d + 1
  | (_, d) => uptoBulk d + 1
 end
def uptoSmall : (H : Type) → List (DataW H) → Bool := fun _ ds => decide (uptoBulkAll ds ≤ 1048576)
def OpenSpec.upto (s : _root_.Go.ChangeSpec) : _root_.Go.OpenSpec := { _root_.Go.OpenSpec.ofChange s with cond := some uptoSmall }

/-- 'mantletlaw05.TcpParses', WHERE WHAT IT READS IS OF BULK AT MOST 1048576: true; the input reads as it did. -/
def tcpParsesUptoRow : OpenClaim := { program := "ythamemjkdjambaadoor", sum := "c017c5299d0938a251c995d6f6c5640452f11608fafdfb2c629002f8f808420c", func := "mantlet/mantletlaw05.TcpParses", spec := "tcpParses", named := ["mantlet/tcp.consistent"], apart := false, laid := [("mantlet/tcp.consistent", laid_mantlet_tcp_consistent)], narrowed := true }
def TcpParsesUptoSaid : Prop := tcpParsesUptoRow.holds Tryd.pinned (OpenSpec.upto tcpParsesSpec)

/-- 'mantletlaw05.TcpBuilds', WHERE WHAT IT READS IS OF BULK AT MOST 1048576: true; the input reads as it did. -/
def tcpBuildsUptoRow : OpenClaim := { program := "ythamemjkdjambaadoor", sum := "c017c5299d0938a251c995d6f6c5640452f11608fafdfb2c629002f8f808420c", func := "mantlet/mantletlaw05.TcpBuilds", spec := "tcpBuilds", named := ["mantlet/tcp.consistent"], apart := false, laid := [("mantlet/tcp.consistent", laid_mantlet_tcp_consistent)], narrowed := true }
def TcpBuildsUptoSaid : Prop := tcpBuildsUptoRow.holds Tryd.pinned (OpenSpec.upto tcpBuildsSpec)

/-- 'mantletlaw05.TcpBack', WHERE WHAT IT READS IS OF BULK AT MOST 1048576: true; the input reads as it did. -/
def tcpBackUptoRow : OpenClaim := { program := "ythamemjkdjambaadoor", sum := "c017c5299d0938a251c995d6f6c5640452f11608fafdfb2c629002f8f808420c", func := "mantlet/mantletlaw05.TcpBack", spec := "tcpBack", named := ["mantlet/tcp.consistent"], apart := false, laid := [("mantlet/tcp.consistent", laid_mantlet_tcp_consistent)], narrowed := true }
def TcpBackUptoSaid : Prop := tcpBackUptoRow.holds Tryd.pinned (OpenSpec.upto tcpBackSpec)

/-- 'mantletlaw05.TcpFlags', WHERE WHAT IT READS IS OF BULK AT MOST 1048576: true; the input reads as it did. -/
def tcpFlagsUptoRow : OpenClaim := { program := "ythamemjkdjambaadoor", sum := "c017c5299d0938a251c995d6f6c5640452f11608fafdfb2c629002f8f808420c", func := "mantlet/mantletlaw05.TcpFlags", spec := "tcpFlags", named := ["mantlet/tcp.consistent"], apart := false, laid := [("mantlet/tcp.consistent", laid_mantlet_tcp_consistent)], narrowed := true }
def TcpFlagsUptoSaid : Prop := tcpFlagsUptoRow.holds Tryd.pinned (OpenSpec.upto tcpFlagsSpec)

end Rows
end Go.Proofs.YthamemjkdjambaaDoor
