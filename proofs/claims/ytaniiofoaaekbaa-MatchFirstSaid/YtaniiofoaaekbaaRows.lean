/-
  No cell of these rows narrows 'for every input' (looked for: loops, veiled, ifaces, maps, wideKeys, modest, calm, conditions, laid).
  DERIVED. THE GIVEN ROWS OF THIS SEAT. 3 by the template 'for every input the law returns true; each argument reads behind the call as it read before'; 0 by the template 'total and deterministic' (their statements: YtaniiofoaaekbaaTotals.lean).
  GIVEN WITH THE SEED: the statements are not yours to turn. If you find one false, say at which input.
  Laid BY PROGRAM, IN A SANDBOX (cutbox-rows.mjs): the forced cells as the released guide's own fill.sh prints them over the translation c715bc49dffb5d66… (all of the seat's roots in one cut). By AI agents, Wed Nov 11 2026. No macro, syntax, notation, axiom, sorry.
-/
import Derived.Test.YtaniiofoaaekbaaChecked
import GoSem.Claim
import GoSem.ClaimJoined
import GoSem.ClaimMapViews
import Derived.JoinedTies
import Derived.KernelRfl
namespace Go.Proofs.Ytaniiofoaaekbaa
/- THE CELL 'sum', in the pinned program and in every row, IS THE sha256 OF THE DUMP (.gsa) THAT YtaniiofoaaekbaaProg.lean LOADS. Nothing in Lean hashes anything: it is a label: what it is worth is what the hold of that sum in a sandbox is worth. -/
noncomputable def Try.pinned : Pinned := { name := "ytaniiofoaaekbaa", sum := "c715bc49dffb5d664dfb1453c768337de9b145c1d0efd18183624a0ae63e4b39", checked := Try.checked }
namespace Rows
def none {H : Type} : Left H := { results := [], args := [] }

/-- 'mantletlaw13.MatchFirst': WHATEVER THE INPUT: true; the input reads as it did. -/
def matchFirstSpec : ChangeSpec := { name := "matchFirst", fn := fun _ => fun
  | [d1, d2, d3] => { results := [.lit (.bool true)], args := [d1, d2, d3] }
  | _ => none }
def matchFirstRow : OpenClaim := { program := "ytaniiofoaaekbaa", sum := "c715bc49dffb5d664dfb1453c768337de9b145c1d0efd18183624a0ae63e4b39", func := "mantlet/mantletlaw13.MatchFirst", spec := "matchFirst", unfollowed := true, recurses := true, apart := false }
def MatchFirstSaid : Prop := matchFirstRow.holds Try.pinned (OpenSpec.ofChange matchFirstSpec)

/-- ITS FALSE NEIGHBOUR: 'it returns false'. Refute it at one input. -/
def matchFirstWrong : ChangeSpec := { name := "matchFirst", fn := fun _ => fun
  | [d1, d2, d3] => { results := [.lit (.bool false)], args := [d1, d2, d3] }
  | _ => none }
def MatchFirstWrongFalsely : Prop := matchFirstRow.holds Try.pinned (OpenSpec.ofChange matchFirstWrong)

/-- 'mantletlaw13.MatchAhead': WHATEVER THE INPUT: true; the input reads as it did. -/
def matchAheadSpec : ChangeSpec := { name := "matchAhead", fn := fun _ => fun
  | [d1, d2, d3] => { results := [.lit (.bool true)], args := [d1, d2, d3] }
  | _ => none }
def matchAheadRow : OpenClaim := { program := "ytaniiofoaaekbaa", sum := "c715bc49dffb5d664dfb1453c768337de9b145c1d0efd18183624a0ae63e4b39", func := "mantlet/mantletlaw13.MatchAhead", spec := "matchAhead", unfollowed := true, recurses := true, apart := false }
def MatchAheadSaid : Prop := matchAheadRow.holds Try.pinned (OpenSpec.ofChange matchAheadSpec)

/-- ITS FALSE NEIGHBOUR: 'it returns false'. Refute it at one input. -/
def matchAheadWrong : ChangeSpec := { name := "matchAhead", fn := fun _ => fun
  | [d1, d2, d3] => { results := [.lit (.bool false)], args := [d1, d2, d3] }
  | _ => none }
def MatchAheadWrongFalsely : Prop := matchAheadRow.holds Try.pinned (OpenSpec.ofChange matchAheadWrong)

/-- 'mantletlaw13.MatchBehind': WHATEVER THE INPUT: true; the input reads as it did. -/
def matchBehindSpec : ChangeSpec := { name := "matchBehind", fn := fun _ => fun
  | [d1, d2, d3] => { results := [.lit (.bool true)], args := [d1, d2, d3] }
  | _ => none }
def matchBehindRow : OpenClaim := { program := "ytaniiofoaaekbaa", sum := "c715bc49dffb5d664dfb1453c768337de9b145c1d0efd18183624a0ae63e4b39", func := "mantlet/mantletlaw13.MatchBehind", spec := "matchBehind", unfollowed := true, recurses := true, apart := false }
def MatchBehindSaid : Prop := matchBehindRow.holds Try.pinned (OpenSpec.ofChange matchBehindSpec)

/-- ITS FALSE NEIGHBOUR: 'it returns false'. Refute it at one input. -/
def matchBehindWrong : ChangeSpec := { name := "matchBehind", fn := fun _ => fun
  | [d1, d2, d3] => { results := [.lit (.bool false)], args := [d1, d2, d3] }
  | _ => none }
def MatchBehindWrongFalsely : Prop := matchBehindRow.holds Try.pinned (OpenSpec.ofChange matchBehindWrong)

/- THE SECOND FORM. 'bulk': how many values and letters a reading holds, each counted each time it is reached (what is shared counts as often as it is met; a slice's spare places count too). A statement '..UptoSaid' is the law's where the arguments, and the package variables that the reading takes, are together of bulk at most 1048576: NARROWER than '..Said'. Prove '..Said' where nothing that the law and all that it calls make is longer than what came in: it says more and counts as full. Else prove '..UptoSaid'. A law counts once. -/
mutual
def uptoBulk {H : Type} : DataW H → Nat
  | .lit (.string bytes) => bytes.length + 1
  | .lit _ => 1
  | .nil => 1
  | .ptr d => uptoBulk d + 1
  | .slice elems spare => uptoBulkAll elems + uptoBulkAll spare + 1
  | .agg parts => uptoBulkAll parts + 1
  | .iface _ d => uptoBulk d + 1
  | .map entries => uptoBulkEntries entries + 1
  | .held _ => 1
def uptoBulkAll {H : Type} : List (DataW H) → Nat
  | [] => 0
  | d :: r => uptoBulk d + uptoBulkAll r
def uptoBulkEntries {H : Type} : List (Lit × DataW H) → Nat
  | [] => 0
  | x :: r => uptoBulkEntry x + uptoBulkEntries r
def uptoBulkEntry {H : Type} : Lit × DataW H → Nat
  | (.string bytes, d) => bytes.length + uptoBulk d + 1
  | (_, d) => uptoBulk d + 1
 end
def uptoSmall : (H : Type) → List (DataW H) → Bool := fun _ ds => decide (uptoBulkAll ds ≤ 1048576)
def OpenSpec.upto (s : _root_.Go.ChangeSpec) : _root_.Go.OpenSpec := { _root_.Go.OpenSpec.ofChange s with cond := some uptoSmall }

/-- 'mantletlaw13.MatchFirst', WHERE WHAT IT READS IS OF BULK AT MOST 1048576: true; the input reads as it did. -/
def matchFirstUptoRow : OpenClaim := { program := "ytaniiofoaaekbaa", sum := "c715bc49dffb5d664dfb1453c768337de9b145c1d0efd18183624a0ae63e4b39", func := "mantlet/mantletlaw13.MatchFirst", spec := "matchFirst", unfollowed := true, recurses := true, apart := false, narrowed := true }
def MatchFirstUptoSaid : Prop := matchFirstUptoRow.holds Try.pinned (OpenSpec.upto matchFirstSpec)

/-- 'mantletlaw13.MatchAhead', WHERE WHAT IT READS IS OF BULK AT MOST 1048576: true; the input reads as it did. -/
def matchAheadUptoRow : OpenClaim := { program := "ytaniiofoaaekbaa", sum := "c715bc49dffb5d664dfb1453c768337de9b145c1d0efd18183624a0ae63e4b39", func := "mantlet/mantletlaw13.MatchAhead", spec := "matchAhead", unfollowed := true, recurses := true, apart := false, narrowed := true }
def MatchAheadUptoSaid : Prop := matchAheadUptoRow.holds Try.pinned (OpenSpec.upto matchAheadSpec)

/-- 'mantletlaw13.MatchBehind', WHERE WHAT IT READS IS OF BULK AT MOST 1048576: true; the input reads as it did. -/
def matchBehindUptoRow : OpenClaim := { program := "ytaniiofoaaekbaa", sum := "c715bc49dffb5d664dfb1453c768337de9b145c1d0efd18183624a0ae63e4b39", func := "mantlet/mantletlaw13.MatchBehind", spec := "matchBehind", unfollowed := true, recurses := true, apart := false, narrowed := true }
def MatchBehindUptoSaid : Prop := matchBehindUptoRow.holds Try.pinned (OpenSpec.upto matchBehindSpec)

end Rows
end Go.Proofs.Ytaniiofoaaekbaa
