/-
  DERIVED. GIVEN WITH THE SEED: THE CARDS: each row of YtfbbkbjiaopnkaaGreatDoorRows.lean that lists a variable, with what it lists TIED to the program's text (the seventh form; the later family's looks); each row that meets fmt, with fmt's text TOLD by the authors' own Lean function (tested against real Go, not proved from fmt's source: count such statements apart). THE CARD IS WHAT COUNTS. Prove the row's statement (the work); the ties are given (YtfbbkbjiaopnkaaGreatDoorTie.lean); close each card by the builder's one call (the guide's Derived/Test/ToyasCard.lean, 'card_holds'). Laid BY PROGRAM, IN A SANDBOX (cutbox-door.mjs). By AI agents, Wed Nov 11 2026. No macro, syntax, notation, axiom, sorry.
-/
import Derived.Test.YtfbbkbjiaopnkaaGreatDoorRows
import GoSem.ClaimSeven
namespace Go.Proofs.YtfbbkbjiaopnkaaGreatDoor
namespace Rows

/-- THE TIED CARD OF 'mantletlaw12.RulesCompiles'. -/
def rulesCompilesCard : Claim7 := { stood := { row := rulesCompilesRow, standIns := [], harness := (true, "7640f930c72191ca611b1f806b018de5c642828db4d734bebf547996e4c8d12f"), looks := true }, kinds := [], alts := [], laidByText := true, laidKinds := [.data, .data, .data, .data, .sentinel, .sentinel, .listed, .data, .pinned], laidTests := true, laidLooks := .later }
def RulesCompilesCardSaid : Prop := Claim7.holds Tryz.pinned (.plain (OpenSpec.ofChange rulesCompilesSpec)) rulesCompilesCard

/-- THE TIED CARD OF 'mantletlaw12.RulesPrints'. -/
def rulesPrintsCard : Claim7 := { stood := { row := rulesPrintsRow, standIns := [], harness := (true, "7640f930c72191ca611b1f806b018de5c642828db4d734bebf547996e4c8d12f"), looks := true }, kinds := [], alts := [], laidByText := true, laidKinds := [.data, .data, .data, .data, .sentinel, .sentinel, .listed, .data, .pinned], laidTests := true, laidLooks := .later }
def RulesPrintsCardSaid : Prop := Claim7.holds Tryz.pinned (.plain (OpenSpec.ofChange rulesPrintsSpec)) rulesPrintsCard

/-- THE SECOND FORM's CARD OF 'mantletlaw12.RulesCompiles'. -/
def rulesCompilesUptoCard : Claim7 := { stood := { row := rulesCompilesUptoRow, standIns := [], harness := (true, "7640f930c72191ca611b1f806b018de5c642828db4d734bebf547996e4c8d12f"), looks := true }, kinds := [], alts := [], laidByText := true, laidKinds := [.data, .data, .data, .data, .sentinel, .sentinel, .listed, .data, .pinned], laidTests := true, laidLooks := .later }
def RulesCompilesUptoCardSaid : Prop := Claim7.holds Tryz.pinned (.plain (OpenSpec.upto rulesCompilesSpec)) rulesCompilesUptoCard

/-- THE SECOND FORM's CARD OF 'mantletlaw12.RulesPrints'. -/
def rulesPrintsUptoCard : Claim7 := { stood := { row := rulesPrintsUptoRow, standIns := [], harness := (true, "7640f930c72191ca611b1f806b018de5c642828db4d734bebf547996e4c8d12f"), looks := true }, kinds := [], alts := [], laidByText := true, laidKinds := [.data, .data, .data, .data, .sentinel, .sentinel, .listed, .data, .pinned], laidTests := true, laidLooks := .later }
def RulesPrintsUptoCardSaid : Prop := Claim7.holds Tryz.pinned (.plain (OpenSpec.upto rulesPrintsSpec)) rulesPrintsUptoCard
end Rows
end Go.Proofs.YtfbbkbjiaopnkaaGreatDoor
