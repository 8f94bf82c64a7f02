/-
  DERIVED. GIVEN WITH THE SEED: THE CARDS: each row of YtbhnbcadgmagpaaGreatDoorRows.lean that lists a variable, with what it lists TIED to the program's text (the seventh form; the later family's looks); each row that meets fmt, with fmt's text TOLD by the authors' own Lean function (tested against real Go, not proved from fmt's source: count such statements apart). THE CARD IS WHAT COUNTS. Prove the row's statement (the work); the ties are given (YtbhnbcadgmagpaaGreatDoorTie.lean); close each card by the builder's one call (the guide's Derived/Test/ToyasCard.lean, 'card_holds'). Laid BY PROGRAM, IN A SANDBOX (cutbox-door.mjs). By AI agents, Wed Nov 11 2026. No macro, syntax, notation, axiom, sorry.
-/
import Derived.Test.YtbhnbcadgmagpaaGreatDoorRows
import GoSem.ClaimSeven
namespace Go.Proofs.YtbhnbcadgmagpaaGreatDoor
namespace Rows

/-- THE TIED CARD OF 'mantletlaw21.ProgHolds'. -/
def progHoldsCard : Claim7 := { stood := { row := progHoldsRow, standIns := [], harness := (true, "a9d9ccf4c6cf531b6c4b76b85b3e89776b672052047baf40823d86bfafa71392"), looks := true }, kinds := [], alts := [], laidByText := true, laidKinds := [.data, .data, .data, .data, .data, .data, .data, .sentinel, .sentinel, .listed, .data, .pinned], laidTests := true, laidLooks := .later }
def ProgHoldsCardSaid : Prop := Claim7.holds Tryz.pinned (.plain (OpenSpec.ofChange progHoldsSpec)) progHoldsCard

/-- THE TIED CARD OF 'mantletlaw21.ProgWaits'. -/
def progWaitsCard : Claim7 := { stood := { row := progWaitsRow, standIns := [], harness := (true, "a9d9ccf4c6cf531b6c4b76b85b3e89776b672052047baf40823d86bfafa71392"), looks := true }, kinds := [], alts := [], laidByText := true, laidKinds := [.data, .data, .data, .data, .data, .data, .data, .sentinel, .sentinel, .listed, .data, .pinned], laidTests := true, laidLooks := .later }
def ProgWaitsCardSaid : Prop := Claim7.holds Tryz.pinned (.plain (OpenSpec.ofChange progWaitsSpec)) progWaitsCard

/-- THE TIED CARD OF 'mantletlaw21.ProgNone'. -/
def progNoneCard : Claim7 := { stood := { row := progNoneRow, standIns := [], harness := (true, "a9d9ccf4c6cf531b6c4b76b85b3e89776b672052047baf40823d86bfafa71392"), looks := true }, kinds := [], alts := [], laidByText := true, laidKinds := [.data, .data, .data, .data, .data, .data, .data, .sentinel, .sentinel, .listed, .data, .pinned], laidTests := true, laidLooks := .later }
def ProgNoneCardSaid : Prop := Claim7.holds Tryz.pinned (.plain (OpenSpec.ofChange progNoneSpec)) progNoneCard

/-- THE TIED CARD OF 'mantletlaw22.WorldNone'. -/
def worldNoneCard : Claim7 := { stood := { row := worldNoneRow, standIns := [], harness := (true, "a9d9ccf4c6cf531b6c4b76b85b3e89776b672052047baf40823d86bfafa71392"), looks := true }, kinds := [], alts := [], laidByText := true, laidKinds := [.data, .data, .data, .data, .data, .data, .data, .sentinel, .sentinel, .listed, .data, .pinned], laidTests := true, laidLooks := .later }
def WorldNoneCardSaid : Prop := Claim7.holds Tryz.pinned (.plain (OpenSpec.ofChange worldNoneSpec)) worldNoneCard

/-- THE SECOND FORM's CARD OF 'mantletlaw21.ProgHolds'. -/
def progHoldsUptoCard : Claim7 := { stood := { row := progHoldsUptoRow, standIns := [], harness := (true, "a9d9ccf4c6cf531b6c4b76b85b3e89776b672052047baf40823d86bfafa71392"), looks := true }, kinds := [], alts := [], laidByText := true, laidKinds := [.data, .data, .data, .data, .data, .data, .data, .sentinel, .sentinel, .listed, .data, .pinned], laidTests := true, laidLooks := .later }
def ProgHoldsUptoCardSaid : Prop := Claim7.holds Tryz.pinned (.plain (OpenSpec.upto progHoldsSpec)) progHoldsUptoCard

/-- THE SECOND FORM's CARD OF 'mantletlaw21.ProgWaits'. -/
def progWaitsUptoCard : Claim7 := { stood := { row := progWaitsUptoRow, standIns := [], harness := (true, "a9d9ccf4c6cf531b6c4b76b85b3e89776b672052047baf40823d86bfafa71392"), looks := true }, kinds := [], alts := [], laidByText := true, laidKinds := [.data, .data, .data, .data, .data, .data, .data, .sentinel, .sentinel, .listed, .data, .pinned], laidTests := true, laidLooks := .later }
def ProgWaitsUptoCardSaid : Prop := Claim7.holds Tryz.pinned (.plain (OpenSpec.upto progWaitsSpec)) progWaitsUptoCard

/-- THE SECOND FORM's CARD OF 'mantletlaw21.ProgNone'. -/
def progNoneUptoCard : Claim7 := { stood := { row := progNoneUptoRow, standIns := [], harness := (true, "a9d9ccf4c6cf531b6c4b76b85b3e89776b672052047baf40823d86bfafa71392"), looks := true }, kinds := [], alts := [], laidByText := true, laidKinds := [.data, .data, .data, .data, .data, .data, .data, .sentinel, .sentinel, .listed, .data, .pinned], laidTests := true, laidLooks := .later }
def ProgNoneUptoCardSaid : Prop := Claim7.holds Tryz.pinned (.plain (OpenSpec.upto progNoneSpec)) progNoneUptoCard

/-- THE SECOND FORM's CARD OF 'mantletlaw22.WorldNone'. -/
def worldNoneUptoCard : Claim7 := { stood := { row := worldNoneUptoRow, standIns := [], harness := (true, "a9d9ccf4c6cf531b6c4b76b85b3e89776b672052047baf40823d86bfafa71392"), looks := true }, kinds := [], alts := [], laidByText := true, laidKinds := [.data, .data, .data, .data, .data, .data, .data, .sentinel, .sentinel, .listed, .data, .pinned], laidTests := true, laidLooks := .later }
def WorldNoneUptoCardSaid : Prop := Claim7.holds Tryz.pinned (.plain (OpenSpec.upto worldNoneSpec)) worldNoneUptoCard
end Rows
end Go.Proofs.YtbhnbcadgmagpaaGreatDoor
