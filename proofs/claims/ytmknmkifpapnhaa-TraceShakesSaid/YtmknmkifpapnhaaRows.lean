/-
  No cell of these rows narrows 'for every input' (looked for: loops, veiled, ifaces, maps, wideKeys, modest, calm, conditions, laid).
  DERIVED. THE GIVEN ROWS OF THIS SEAT. 3 by the template 'for every input the law returns true; each argument reads behind the call as it read before'; 0 by the template 'total and deterministic' (their statements: YtmknmkifpapnhaaTotals.lean).
  GIVEN WITH THE SEED: the statements are not yours to turn. If you find one false, say at which input.
  Laid BY PROGRAM, IN A SANDBOX (cutbox-rows.mjs): the forced cells as the released guide's own fill.sh prints them over the translation 60d3ad0e59056080… (all of the seat's roots in one cut). By AI agents, Wed Nov 11 2026. No macro, syntax, notation, axiom, sorry.
-/
import Derived.Test.YtmknmkifpapnhaaChecked
import GoSem.Claim
import GoSem.ClaimJoined
import GoSem.ClaimMapViews
import Derived.JoinedTies
import Derived.KernelRfl
namespace Go.Proofs.Ytmknmkifpapnhaa
/- THE CELL 'sum', in the pinned program and in every row, IS THE sha256 OF THE DUMP (.gsa) THAT YtmknmkifpapnhaaProg.lean LOADS. Nothing in Lean hashes anything: it is a label: what it is worth is what the hold of that sum in a sandbox is worth. -/
noncomputable def Try.pinned : Pinned := { name := "ytmknmkifpapnhaa", sum := "60d3ad0e59056080a5c9b20bf41e4a3fb0c9145a70572976470d40b4b5a9f396", checked := Try.checked }
namespace Rows
def none {H : Type} : Left H := { results := [], args := [] }

/-- 'mantletlaw16.TraceMoves': WHATEVER THE INPUT: true; the input reads as it did. -/
def traceMovesSpec : ChangeSpec := { name := "traceMoves", fn := fun _ => fun
  | [d1, d2, d3] => { results := [.lit (.bool true)], args := [d1, d2, d3] }
  | _ => none }
def traceMovesRow : OpenClaim := { program := "ytmknmkifpapnhaa", sum := "60d3ad0e59056080a5c9b20bf41e4a3fb0c9145a70572976470d40b4b5a9f396", func := "mantlet/mantletlaw16.TraceMoves", spec := "traceMoves", plainKeys := false, apart := false }
def TraceMovesSaid : Prop := traceMovesRow.holds Try.pinned (OpenSpec.ofChange traceMovesSpec)

/-- ITS FALSE NEIGHBOUR: 'it returns false'. Refute it at one input. -/
def traceMovesWrong : ChangeSpec := { name := "traceMoves", fn := fun _ => fun
  | [d1, d2, d3] => { results := [.lit (.bool false)], args := [d1, d2, d3] }
  | _ => none }
def TraceMovesWrongFalsely : Prop := traceMovesRow.holds Try.pinned (OpenSpec.ofChange traceMovesWrong)

/-- 'mantletlaw16.TraceRuns': WHATEVER THE INPUT: true; the input reads as it did. -/
def traceRunsSpec : ChangeSpec := { name := "traceRuns", fn := fun _ => fun
  | [d] => { results := [.lit (.bool true)], args := [d] }
  | _ => none }
def traceRunsRow : OpenClaim := { program := "ytmknmkifpapnhaa", sum := "60d3ad0e59056080a5c9b20bf41e4a3fb0c9145a70572976470d40b4b5a9f396", func := "mantlet/mantletlaw16.TraceRuns", spec := "traceRuns", plainKeys := false, apart := false }
def TraceRunsSaid : Prop := traceRunsRow.holds Try.pinned (OpenSpec.ofChange traceRunsSpec)

/-- ITS FALSE NEIGHBOUR: 'it returns false'. Refute it at one input. -/
def traceRunsWrong : ChangeSpec := { name := "traceRuns", fn := fun _ => fun
  | [d] => { results := [.lit (.bool false)], args := [d] }
  | _ => none }
def TraceRunsWrongFalsely : Prop := traceRunsRow.holds Try.pinned (OpenSpec.ofChange traceRunsWrong)

/-- 'mantletlaw16.TraceShakes': WHATEVER THE INPUT: true; the input reads as it did. -/
def traceShakesSpec : ChangeSpec := { name := "traceShakes", fn := fun _ => fun
  | [d] => { results := [.lit (.bool true)], args := [d] }
  | _ => none }
def traceShakesRow : OpenClaim := { program := "ytmknmkifpapnhaa", sum := "60d3ad0e59056080a5c9b20bf41e4a3fb0c9145a70572976470d40b4b5a9f396", func := "mantlet/mantletlaw16.TraceShakes", spec := "traceShakes", plainKeys := false, apart := false }
def TraceShakesSaid : Prop := traceShakesRow.holds Try.pinned (OpenSpec.ofChange traceShakesSpec)

/-- ITS FALSE NEIGHBOUR: 'it returns false'. Refute it at one input. -/
def traceShakesWrong : ChangeSpec := { name := "traceShakes", fn := fun _ => fun
  | [d] => { results := [.lit (.bool false)], args := [d] }
  | _ => none }
def TraceShakesWrongFalsely : Prop := traceShakesRow.holds Try.pinned (OpenSpec.ofChange traceShakesWrong)

/- THE SECOND FORM. 'bulk': how many values and letters a reading holds, each counted each time it is reached (what is shared counts as often as it is met; a slice's spare places count too). A statement '..UptoSaid' is the law's where the arguments, and the package variables that the reading takes, are together of bulk at most 1048576: NARROWER than '..Said'. Prove '..Said' where nothing that the law and all that it calls make is longer than what came in: it says more and counts as full. Else prove '..UptoSaid'. A law counts once. -/
mutual
def uptoBulk {H : Type} : DataW H → Nat
  | .lit (.string bytes) => bytes.length + 1
  | .lit _ => 1
  | .nil => 1
  | .ptr d => uptoBulk d + 1
  | .slice elems spare => uptoBulkAll elems + uptoBulkAll spare + 1
  | .agg parts => uptoBulkAll parts + 1
  | .iface _ d => uptoBulk d + 1
  | .map entries => uptoBulkEntries entries + 1
  | .held _ => 1
def uptoBulkAll {H : Type} : List (DataW H) → Nat
  | [] => 0
  | d :: r => uptoBulk d + uptoBulkAll r
def uptoBulkEntries {H : Type} : List (Lit × DataW H) → Nat
  | [] => 0
  | x :: r => uptoBulkEntry x + uptoBulkEntries r
def uptoBulkEntry {H : Type} : Lit × DataW H → Nat
  | (.string bytes, d) => bytes.length + uptoBulk d + 1
  | (_, d) => uptoBulk d + 1
 end
def uptoSmall : (H : Type) → List (DataW H) → Bool := fun _ ds => decide (uptoBulkAll ds ≤ 1048576)
def OpenSpec.upto (s : _root_.Go.ChangeSpec) : _root_.Go.OpenSpec := { _root_.Go.OpenSpec.ofChange s with cond := some uptoSmall }

/-- 'mantletlaw16.TraceMoves', WHERE WHAT IT READS IS OF BULK AT MOST 1048576: true; the input reads as it did. -/
def traceMovesUptoRow : OpenClaim := { program := "ytmknmkifpapnhaa", sum := "60d3ad0e59056080a5c9b20bf41e4a3fb0c9145a70572976470d40b4b5a9f396", func := "mantlet/mantletlaw16.TraceMoves", spec := "traceMoves", plainKeys := false, apart := false, narrowed := true }
def TraceMovesUptoSaid : Prop := traceMovesUptoRow.holds Try.pinned (OpenSpec.upto traceMovesSpec)

/-- 'mantletlaw16.TraceRuns', WHERE WHAT IT READS IS OF BULK AT MOST 1048576: true; the input reads as it did. -/
def traceRunsUptoRow : OpenClaim := { program := "ytmknmkifpapnhaa", sum := "60d3ad0e59056080a5c9b20bf41e4a3fb0c9145a70572976470d40b4b5a9f396", func := "mantlet/mantletlaw16.TraceRuns", spec := "traceRuns", plainKeys := false, apart := false, narrowed := true }
def TraceRunsUptoSaid : Prop := traceRunsUptoRow.holds Try.pinned (OpenSpec.upto traceRunsSpec)

/-- 'mantletlaw16.TraceShakes', WHERE WHAT IT READS IS OF BULK AT MOST 1048576: true; the input reads as it did. -/
def traceShakesUptoRow : OpenClaim := { program := "ytmknmkifpapnhaa", sum := "60d3ad0e59056080a5c9b20bf41e4a3fb0c9145a70572976470d40b4b5a9f396", func := "mantlet/mantletlaw16.TraceShakes", spec := "traceShakes", plainKeys := false, apart := false, narrowed := true }
def TraceShakesUptoSaid : Prop := traceShakesUptoRow.holds Try.pinned (OpenSpec.upto traceShakesSpec)

end Rows
end Go.Proofs.Ytmknmkifpapnhaa
