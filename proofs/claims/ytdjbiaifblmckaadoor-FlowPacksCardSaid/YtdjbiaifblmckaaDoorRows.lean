/-
  NARROWER THAN 'FOR EVERY INPUT', by the rows' own cells (each row's printed sentence says how): FlowPacks: laid · FlowNexts: laid · FlowBack: laid · FlowLater: laid.
  DERIVED. THE GIVEN ROWS OF THIS SEAT. 4 by the template 'for every input the law returns true; each argument reads behind the call as it read before'; 0 by the template 'total and deterministic' (their statements: YtdjbiaifblmckaaDoorTotals.lean).
  GIVEN WITH THE SEED: the statements are not yours to turn. If you find one false, say at which input.
  Laid BY PROGRAM, IN A SANDBOX (cutbox-rows.mjs): the forced cells as the released guide's own fill.sh prints them over the translation 7f7a81dca95a8ec5… (all of the seat's roots in one cut). By AI agents, Wed Nov 11 2026. No macro, syntax, notation, axiom, sorry.
-/
import Derived.Test.YtdjbiaifblmckaaDoorChecked
import GoSem.Claim
import GoSem.ClaimJoined
import GoSem.ClaimMapViews
import Derived.JoinedTies
import Derived.KernelRfl
namespace Go.Proofs.YtdjbiaifblmckaaDoor
/- THE CELL 'sum', in the pinned program and in every row, IS THE sha256 OF THE DUMP (.gsa) THAT YtdjbiaifblmckaaDoorProg.lean LOADS. Nothing in Lean hashes anything: it is a label: what it is worth is what the hold of that sum in a sandbox is worth. -/
noncomputable def Tryd.pinned : Pinned := { name := "ytdjbiaifblmckaadoor", sum := "7f7a81dca95a8ec50bef96b8bbb5d9861f523661d3cdce84254743dfd2811ecd", checked := Tryd.checked }
namespace Rows
def none {H : Type} : Left H := { results := [], args := [] }

/- WHAT THE LISTED PACKAGE-LEVEL VARIABLES READ AS WHEN THE CALL BEGINS. Each datum BY PROGRAM (the guide's laid-datum.mjs) off the statement by which the dump's own 'gosem.cut.vars' lays the variable. In a bare row this is a premise. The card (YtdjbiaifblmckaaDoorCards.lean) ties it to the program's text. -/
def laid_mantlet_flow_parts {H : Type} : DataW H := .agg [.agg [.lit (.int .i64 0), .lit (.int .i64 40), .lit (.int .i64 1099511627775)], .agg [.lit (.int .i64 40), .lit (.int .i64 20), .lit (.int .i64 1048575)], .agg [.lit (.int .i64 60), .lit (.int .i64 4), .lit (.int .i64 15)]]

/-- 'mantletlaw15.FlowPacks': WHATEVER THE INPUT: true; the input reads as it did. -/
def flowPacksSpec : ChangeSpec := { name := "flowPacks", fn := fun _ => fun
  | [d1, d2, d3] => { results := [.lit (.bool true)], args := [d1, d2, d3] }
  | _ => none }
def flowPacksRow : OpenClaim := { program := "ytdjbiaifblmckaadoor", sum := "7f7a81dca95a8ec50bef96b8bbb5d9861f523661d3cdce84254743dfd2811ecd", func := "mantlet/mantletlaw15.FlowPacks", spec := "flowPacks", named := ["mantlet/flow.parts"], apart := false, laid := [("mantlet/flow.parts", laid_mantlet_flow_parts)] }
def FlowPacksSaid : Prop := flowPacksRow.holds Tryd.pinned (OpenSpec.ofChange flowPacksSpec)

/-- ITS FALSE NEIGHBOUR: 'it returns false'. Refute it at one input. -/
def flowPacksWrong : ChangeSpec := { name := "flowPacks", fn := fun _ => fun
  | [d1, d2, d3] => { results := [.lit (.bool false)], args := [d1, d2, d3] }
  | _ => none }
def FlowPacksWrongFalsely : Prop := flowPacksRow.holds Tryd.pinned (OpenSpec.ofChange flowPacksWrong)

/-- 'mantletlaw15.FlowNexts': WHATEVER THE INPUT: true; the input reads as it did. -/
def flowNextsSpec : ChangeSpec := { name := "flowNexts", fn := fun _ => fun
  | [d1, d2, d3] => { results := [.lit (.bool true)], args := [d1, d2, d3] }
  | _ => none }
def flowNextsRow : OpenClaim := { program := "ytdjbiaifblmckaadoor", sum := "7f7a81dca95a8ec50bef96b8bbb5d9861f523661d3cdce84254743dfd2811ecd", func := "mantlet/mantletlaw15.FlowNexts", spec := "flowNexts", named := ["mantlet/flow.parts"], apart := false, laid := [("mantlet/flow.parts", laid_mantlet_flow_parts)] }
def FlowNextsSaid : Prop := flowNextsRow.holds Tryd.pinned (OpenSpec.ofChange flowNextsSpec)

/-- ITS FALSE NEIGHBOUR: 'it returns false'. Refute it at one input. -/
def flowNextsWrong : ChangeSpec := { name := "flowNexts", fn := fun _ => fun
  | [d1, d2, d3] => { results := [.lit (.bool false)], args := [d1, d2, d3] }
  | _ => none }
def FlowNextsWrongFalsely : Prop := flowNextsRow.holds Tryd.pinned (OpenSpec.ofChange flowNextsWrong)

/-- 'mantletlaw15.FlowBack': WHATEVER THE INPUT: true; the input reads as it did. -/
def flowBackSpec : ChangeSpec := { name := "flowBack", fn := fun _ => fun
  | [d1, d2] => { results := [.lit (.bool true)], args := [d1, d2] }
  | _ => none }
def flowBackRow : OpenClaim := { program := "ytdjbiaifblmckaadoor", sum := "7f7a81dca95a8ec50bef96b8bbb5d9861f523661d3cdce84254743dfd2811ecd", func := "mantlet/mantletlaw15.FlowBack", spec := "flowBack", named := ["mantlet/flow.parts"], apart := false, laid := [("mantlet/flow.parts", laid_mantlet_flow_parts)] }
def FlowBackSaid : Prop := flowBackRow.holds Tryd.pinned (OpenSpec.ofChange flowBackSpec)

/-- ITS FALSE NEIGHBOUR: 'it returns false'. Refute it at one input. -/
def flowBackWrong : ChangeSpec := { name := "flowBack", fn := fun _ => fun
  | [d1, d2] => { results := [.lit (.bool false)], args := [d1, d2] }
  | _ => none }
def FlowBackWrongFalsely : Prop := flowBackRow.holds Tryd.pinned (OpenSpec.ofChange flowBackWrong)

/-- 'mantletlaw15.FlowLater': WHATEVER THE INPUT: true; the input reads as it did. -/
def flowLaterSpec : ChangeSpec := { name := "flowLater", fn := fun _ => fun
  | [d1, d2, d3, d4, d5] => { results := [.lit (.bool true)], args := [d1, d2, d3, d4, d5] }
  | _ => none }
def flowLaterRow : OpenClaim := { program := "ytdjbiaifblmckaadoor", sum := "7f7a81dca95a8ec50bef96b8bbb5d9861f523661d3cdce84254743dfd2811ecd", func := "mantlet/mantletlaw15.FlowLater", spec := "flowLater", named := ["mantlet/flow.parts"], apart := false, laid := [("mantlet/flow.parts", laid_mantlet_flow_parts)] }
def FlowLaterSaid : Prop := flowLaterRow.holds Tryd.pinned (OpenSpec.ofChange flowLaterSpec)

/-- ITS FALSE NEIGHBOUR: 'it returns false'. Refute it at one input. -/
def flowLaterWrong : ChangeSpec := { name := "flowLater", fn := fun _ => fun
  | [d1, d2, d3, d4, d5] => { results := [.lit (.bool false)], args := [d1, d2, d3, d4, d5] }
  | _ => none }
def FlowLaterWrongFalsely : Prop := flowLaterRow.holds Tryd.pinned (OpenSpec.ofChange flowLaterWrong)

/- THE SECOND FORM. 'bulk': how many values and letters a reading holds, each counted each time it is reached (what is shared counts as often as it is met; a slice's spare places count too). A statement '..UptoSaid' is the law's where the arguments, and the package variables that the reading takes, are together of bulk at most 1048576: NARROWER than '..Said'. Prove '..Said' where nothing that the law and all that it calls make is longer than what came in: it says more and counts as full. Else prove '..UptoSaid'. A law counts once. -/
mutual
def uptoBulk {H : Type} : DataW H → Nat
  | .lit (.string bytes) => bytes.length + 1
  | .lit _ => 1
  | .nil => 1
  | .ptr d => uptoBulk d + 1
  | .slice elems spare => uptoBulkAll elems + uptoBulkAll spare + 1
  | .agg parts => uptoBulkAll parts + 1
  | .iface _ d => uptoBulk d + 1
  | .map entries => uptoBulkEntries entries + 1
  | .held _ => 1
def uptoBulkAll {H : Type} : List (DataW H) → Nat
  | [] => 0
  | d :: r => uptoBulk d + uptoBulkAll r
def uptoBulkEntries {H : Type} : List (Lit × DataW H) → Nat
  | [] => 0
  | x :: r => uptoBulkEntry x + uptoBulkEntries r
def uptoBulkEntry {H : Type} : Lit × DataW H → Nat
  | (.string bytes, d) => bytes.length + uptoBulk d + 1
  | (_, d) => uptoBulk d + 1
 end
def uptoSmall : (H : Type) → List (DataW H) → Bool := fun _ ds => decide (uptoBulkAll ds ≤ 1048576)
def OpenSpec.upto (s : _root_.Go.ChangeSpec) : _root_.Go.OpenSpec := { _root_.Go.OpenSpec.ofChange s with cond := some uptoSmall }

/-- 'mantletlaw15.FlowPacks', WHERE WHAT IT READS IS OF BULK AT MOST 1048576: true; the input reads as it did. -/
def flowPacksUptoRow : OpenClaim := { program := "ytdjbiaifblmckaadoor", sum := "7f7a81dca95a8ec50bef96b8bbb5d9861f523661d3cdce84254743dfd2811ecd", func := "mantlet/mantletlaw15.FlowPacks", spec := "flowPacks", named := ["mantlet/flow.parts"], apart := false, laid := [("mantlet/flow.parts", laid_mantlet_flow_parts)], narrowed := true }
def FlowPacksUptoSaid : Prop := flowPacksUptoRow.holds Tryd.pinned (OpenSpec.upto flowPacksSpec)

/-- 'mantletlaw15.FlowNexts', WHERE WHAT IT READS IS OF BULK AT MOST 1048576: true; the input reads as it did. -/
def flowNextsUptoRow : OpenClaim := { program := "ytdjbiaifblmckaadoor", sum := "7f7a81dca95a8ec50bef96b8bbb5d9861f523661d3cdce84254743dfd2811ecd", func := "mantlet/mantletlaw15.FlowNexts", spec := "flowNexts", named := ["mantlet/flow.parts"], apart := false, laid := [("mantlet/flow.parts", laid_mantlet_flow_parts)], narrowed := true }
def FlowNextsUptoSaid : Prop := flowNextsUptoRow.holds Tryd.pinned (OpenSpec.upto flowNextsSpec)

/-- 'mantletlaw15.FlowBack', WHERE WHAT IT READS IS OF BULK AT MOST 1048576: true; the input reads as it did. -/
def flowBackUptoRow : OpenClaim := { program := "ytdjbiaifblmckaadoor", sum := "7f7a81dca95a8ec50bef96b8bbb5d9861f523661d3cdce84254743dfd2811ecd", func := "mantlet/mantletlaw15.FlowBack", spec := "flowBack", named := ["mantlet/flow.parts"], apart := false, laid := [("mantlet/flow.parts", laid_mantlet_flow_parts)], narrowed := true }
def FlowBackUptoSaid : Prop := flowBackUptoRow.holds Tryd.pinned (OpenSpec.upto flowBackSpec)

/-- 'mantletlaw15.FlowLater', WHERE WHAT IT READS IS OF BULK AT MOST 1048576: true; the input reads as it did. -/
def flowLaterUptoRow : OpenClaim := { program := "ytdjbiaifblmckaadoor", sum := "7f7a81dca95a8ec50bef96b8bbb5d9861f523661d3cdce84254743dfd2811ecd", func := "mantlet/mantletlaw15.FlowLater", spec := "flowLater", named := ["mantlet/flow.parts"], apart := false, laid := [("mantlet/flow.parts", laid_mantlet_flow_parts)], narrowed := true }
def FlowLaterUptoSaid : Prop := flowLaterUptoRow.holds Tryd.pinned (OpenSpec.upto flowLaterSpec)

end Rows
end Go.Proofs.YtdjbiaifblmckaaDoor
