/-
  No cell of these rows narrows 'for every input' (looked for: loops, veiled, ifaces, maps, wideKeys, modest, calm, conditions, laid).
  DERIVED. THE GIVEN ROWS OF THIS SEAT. 3 by the template 'for every input the law returns true; each argument reads behind the call as it read before'; 0 by the template 'total and deterministic' (their statements: YtalclmfnalmphaaTotals.lean).
  GIVEN WITH THE SEED: the statements are not yours to turn. If you find one false, say at which input.
  Laid BY PROGRAM, IN A SANDBOX (cutbox-rows.mjs): the forced cells as the released guide's own fill.sh prints them over the translation 83240fc3e8a35840… (all of the seat's roots in one cut). By AI agents, Wed Nov 11 2026. No macro, syntax, notation, axiom, sorry.
-/
import Derived.Test.YtalclmfnalmphaaChecked
import GoSem.Claim
import GoSem.ClaimJoined
import GoSem.ClaimMapViews
import Derived.JoinedTies
import Derived.KernelRfl
namespace Go.Proofs.Ytalclmfnalmphaa
/- THE CELL 'sum', in the pinned program and in every row, IS THE sha256 OF THE DUMP (.gsa) THAT YtalclmfnalmphaaProg.lean LOADS. Nothing in Lean hashes anything: it is a label: what it is worth is what the hold of that sum in a sandbox is worth. -/
noncomputable def Try.pinned : Pinned := { name := "ytalclmfnalmphaa", sum := "83240fc3e8a358409e86df04bf40874bfd4215d629bb140bc201d9ad94ce34cd", checked := Try.checked }
namespace Rows
def none {H : Type} : Left H := { results := [], args := [] }

/-- 'mantletlaw24.RaceFinds': WHATEVER THE INPUT: true; the input reads as it did. -/
def raceFindsSpec : ChangeSpec := { name := "raceFinds", fn := fun _ => fun
  | [d1, d2, d3] => { results := [.lit (.bool true)], args := [d1, d2, d3] }
  | _ => none }
def raceFindsRow : OpenClaim := { program := "ytalclmfnalmphaa", sum := "83240fc3e8a358409e86df04bf40874bfd4215d629bb140bc201d9ad94ce34cd", func := "mantlet/mantletlaw24.RaceFinds", spec := "raceFinds", apart := false }
def RaceFindsSaid : Prop := raceFindsRow.holds Try.pinned (OpenSpec.ofChange raceFindsSpec)

/-- ITS FALSE NEIGHBOUR: 'it returns false'. Refute it at one input. -/
def raceFindsWrong : ChangeSpec := { name := "raceFinds", fn := fun _ => fun
  | [d1, d2, d3] => { results := [.lit (.bool false)], args := [d1, d2, d3] }
  | _ => none }
def RaceFindsWrongFalsely : Prop := raceFindsRow.holds Try.pinned (OpenSpec.ofChange raceFindsWrong)

/-- 'mantletlaw24.RaceOrders': WHATEVER THE INPUT: true; the input reads as it did. -/
def raceOrdersSpec : ChangeSpec := { name := "raceOrders", fn := fun _ => fun
  | [d1, d2, d3, d4] => { results := [.lit (.bool true)], args := [d1, d2, d3, d4] }
  | _ => none }
def raceOrdersRow : OpenClaim := { program := "ytalclmfnalmphaa", sum := "83240fc3e8a358409e86df04bf40874bfd4215d629bb140bc201d9ad94ce34cd", func := "mantlet/mantletlaw24.RaceOrders", spec := "raceOrders", apart := false }
def RaceOrdersSaid : Prop := raceOrdersRow.holds Try.pinned (OpenSpec.ofChange raceOrdersSpec)

/-- ITS FALSE NEIGHBOUR: 'it returns false'. Refute it at one input. -/
def raceOrdersWrong : ChangeSpec := { name := "raceOrders", fn := fun _ => fun
  | [d1, d2, d3, d4] => { results := [.lit (.bool false)], args := [d1, d2, d3, d4] }
  | _ => none }
def RaceOrdersWrongFalsely : Prop := raceOrdersRow.holds Try.pinned (OpenSpec.ofChange raceOrdersWrong)

/-- 'mantletlaw24.RaceAlone': WHATEVER THE INPUT: true; the input reads as it did. -/
def raceAloneSpec : ChangeSpec := { name := "raceAlone", fn := fun _ => fun
  | [d1, d2] => { results := [.lit (.bool true)], args := [d1, d2] }
  | _ => none }
def raceAloneRow : OpenClaim := { program := "ytalclmfnalmphaa", sum := "83240fc3e8a358409e86df04bf40874bfd4215d629bb140bc201d9ad94ce34cd", func := "mantlet/mantletlaw24.RaceAlone", spec := "raceAlone", apart := false }
def RaceAloneSaid : Prop := raceAloneRow.holds Try.pinned (OpenSpec.ofChange raceAloneSpec)

/-- ITS FALSE NEIGHBOUR: 'it returns false'. Refute it at one input. -/
def raceAloneWrong : ChangeSpec := { name := "raceAlone", fn := fun _ => fun
  | [d1, d2] => { results := [.lit (.bool false)], args := [d1, d2] }
  | _ => none }
def RaceAloneWrongFalsely : Prop := raceAloneRow.holds Try.pinned (OpenSpec.ofChange raceAloneWrong)

/- THE SECOND FORM. 'bulk': how many values and letters a reading holds, each counted each time it is reached (what is shared counts as often as it is met; a slice's spare places count too). A statement '..UptoSaid' is the law's where the arguments, and the package variables that the reading takes, are together of bulk at most 1048576: NARROWER than '..Said'. Prove '..Said' where nothing that the law and all that it calls make is longer than what came in: it says more and counts as full. Else prove '..UptoSaid'. A law counts once. -/
mutual
def uptoBulk {H : Type} : DataW H → Nat
  | .lit (.string bytes) => bytes.length + 1
  | .lit _ => 1
  | .nil => 1
  | .ptr d => uptoBulk d + 1
  | .slice elems spare => uptoBulkAll elems + uptoBulkAll spare + 1
  | .agg parts => uptoBulkAll parts + 1
  | .iface _ d => uptoBulk d + 1
  | .map entries => uptoBulkEntries entries + 1
  | .held _ => 1
def uptoBulkAll {H : Type} : List (DataW H) → Nat
  | [] => 0
  | d :: r => uptoBulk d + uptoBulkAll r
def uptoBulkEntries {H : Type} : List (Lit × DataW H) → Nat
  | [] => 0
  | x :: r => uptoBulkEntry x + uptoBulkEntries r
def uptoBulkEntry {H : Type} : Lit × DataW H → Nat
  | (.string bytes, d) => bytes.length + uptoBulk d + 1
  | (_, d) => uptoBulk d + 1
 end
def uptoSmall : (H : Type) → List (DataW H) → Bool := fun _ ds => decide (uptoBulkAll ds ≤ 1048576)
def OpenSpec.upto (s : _root_.Go.ChangeSpec) : _root_.Go.OpenSpec := { _root_.Go.OpenSpec.ofChange s with cond := some uptoSmall }

/-- 'mantletlaw24.RaceFinds', WHERE WHAT IT READS IS OF BULK AT MOST 1048576: true; the input reads as it did. -/
def raceFindsUptoRow : OpenClaim := { program := "ytalclmfnalmphaa", sum := "83240fc3e8a358409e86df04bf40874bfd4215d629bb140bc201d9ad94ce34cd", func := "mantlet/mantletlaw24.RaceFinds", spec := "raceFinds", apart := false, narrowed := true }
def RaceFindsUptoSaid : Prop := raceFindsUptoRow.holds Try.pinned (OpenSpec.upto raceFindsSpec)

/-- 'mantletlaw24.RaceOrders', WHERE WHAT IT READS IS OF BULK AT MOST 1048576: true; the input reads as it did. -/
def raceOrdersUptoRow : OpenClaim := { program := "ytalclmfnalmphaa", sum := "83240fc3e8a358409e86df04bf40874bfd4215d629bb140bc201d9ad94ce34cd", func := "mantlet/mantletlaw24.RaceOrders", spec := "raceOrders", apart := false, narrowed := true }
def RaceOrdersUptoSaid : Prop := raceOrdersUptoRow.holds Try.pinned (OpenSpec.upto raceOrdersSpec)

/-- 'mantletlaw24.RaceAlone', WHERE WHAT IT READS IS OF BULK AT MOST 1048576: true; the input reads as it did. -/
def raceAloneUptoRow : OpenClaim := { program := "ytalclmfnalmphaa", sum := "83240fc3e8a358409e86df04bf40874bfd4215d629bb140bc201d9ad94ce34cd", func := "mantlet/mantletlaw24.RaceAlone", spec := "raceAlone", apart := false, narrowed := true }
def RaceAloneUptoSaid : Prop := raceAloneUptoRow.holds Try.pinned (OpenSpec.upto raceAloneSpec)

end Rows
end Go.Proofs.Ytalclmfnalmphaa
