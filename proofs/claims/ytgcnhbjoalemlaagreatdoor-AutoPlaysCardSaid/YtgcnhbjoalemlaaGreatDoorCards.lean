/-
  DERIVED. GIVEN WITH THE SEED: THE CARDS: each row of YtgcnhbjoalemlaaGreatDoorRows.lean that lists a variable, with what it lists TIED to the program's text (the seventh form; the later family's looks); each row that meets fmt, with fmt's text TOLD by the authors' own Lean function (tested against real Go, not proved from fmt's source: count such statements apart). THE CARD IS WHAT COUNTS. Prove the row's statement (the work); the ties are given (YtgcnhbjoalemlaaGreatDoorTie.lean); close each card by the builder's one call (the guide's Derived/Test/ToyasCard.lean, 'card_holds'). Laid BY PROGRAM, IN A SANDBOX (cutbox-door.mjs). By AI agents, Wed Nov 11 2026. No macro, syntax, notation, axiom, sorry.
-/
import Derived.Test.YtgcnhbjoalemlaaGreatDoorRows
import GoSem.ClaimSeven
namespace Go.Proofs.YtgcnhbjoalemlaaGreatDoor
namespace Rows

/-- THE TIED CARD OF 'mantletlaw18.AutoPlays'. -/
def autoPlaysCard : Claim7 := { stood := { row := autoPlaysRow, standIns := [], harness := (true, "19b503e4c2d2f1cd6396a381d1339028c0a1c3623fef41759bc1e3a84b8bda5d"), looks := false }, kinds := [], alts := [], laidByText := true, laidKinds := [.data, .data, .data, .data, .data], laidTests := true, laidLooks := .later }
def AutoPlaysCardSaid : Prop := Claim7.holds Tryz.pinned (.plain (OpenSpec.ofChange autoPlaysSpec)) autoPlaysCard

/-- THE SECOND FORM's CARD OF 'mantletlaw18.AutoPlays'. -/
def autoPlaysUptoCard : Claim7 := { stood := { row := autoPlaysUptoRow, standIns := [], harness := (true, "19b503e4c2d2f1cd6396a381d1339028c0a1c3623fef41759bc1e3a84b8bda5d"), looks := false }, kinds := [], alts := [], laidByText := true, laidKinds := [.data, .data, .data, .data, .data], laidTests := true, laidLooks := .later }
def AutoPlaysUptoCardSaid : Prop := Claim7.holds Tryz.pinned (.plain (OpenSpec.upto autoPlaysSpec)) autoPlaysUptoCard
end Rows
end Go.Proofs.YtgcnhbjoalemlaaGreatDoor
