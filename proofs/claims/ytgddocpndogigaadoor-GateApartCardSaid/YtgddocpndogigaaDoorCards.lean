/-
  DERIVED. GIVEN WITH THE SEED: THE CARDS: each row of YtgddocpndogigaaDoorRows.lean that lists a variable, with what it lists TIED to the program's text (the seventh form; the later family's looks); each row that meets fmt, with fmt's text TOLD by the authors' own Lean function (tested against real Go, not proved from fmt's source: count such statements apart). THE CARD IS WHAT COUNTS. Prove the row's statement (the work); the ties are given (YtgddocpndogigaaDoorTie.lean); close each card by the builder's one call (the guide's Derived/Test/ToyasCard.lean, 'card_holds'). Laid BY PROGRAM, IN A SANDBOX (cutbox-door.mjs). By AI agents, Wed Nov 11 2026. No macro, syntax, notation, axiom, sorry.
-/
import Derived.Test.YtgddocpndogigaaDoorRows
import GoSem.ClaimSeven
namespace Go.Proofs.YtgddocpndogigaaDoor
namespace Rows

/-- THE TIED CARD OF 'mantletlaw14.GatePacks'. -/
def gatePacksCard : Claim7 := { stood := { row := gatePacksRow, standIns := [], harness := (true, "c791703f56dd5acebed3a146bc476001a312edccb320747133c07b107c1cbc67"), looks := false }, kinds := [], alts := [], laidByText := true, laidKinds := [.data], laidTests := true, laidLooks := .later }
def GatePacksCardSaid : Prop := Claim7.holds Tryd.pinned (.plain (OpenSpec.ofChange gatePacksSpec)) gatePacksCard

/-- THE TIED CARD OF 'mantletlaw14.GateMoves'. -/
def gateMovesCard : Claim7 := { stood := { row := gateMovesRow, standIns := [], harness := (true, "c791703f56dd5acebed3a146bc476001a312edccb320747133c07b107c1cbc67"), looks := false }, kinds := [], alts := [], laidByText := true, laidKinds := [.data], laidTests := true, laidLooks := .later }
def GateMovesCardSaid : Prop := Claim7.holds Tryd.pinned (.plain (OpenSpec.ofChange gateMovesSpec)) gateMovesCard

/-- THE TIED CARD OF 'mantletlaw14.GateBack'. -/
def gateBackCard : Claim7 := { stood := { row := gateBackRow, standIns := [], harness := (true, "c791703f56dd5acebed3a146bc476001a312edccb320747133c07b107c1cbc67"), looks := false }, kinds := [], alts := [], laidByText := true, laidKinds := [.data], laidTests := true, laidLooks := .later }
def GateBackCardSaid : Prop := Claim7.holds Tryd.pinned (.plain (OpenSpec.ofChange gateBackSpec)) gateBackCard

/-- THE TIED CARD OF 'mantletlaw14.GateApart'. -/
def gateApartCard : Claim7 := { stood := { row := gateApartRow, standIns := [], harness := (true, "c791703f56dd5acebed3a146bc476001a312edccb320747133c07b107c1cbc67"), looks := false }, kinds := [], alts := [], laidByText := true, laidKinds := [.data], laidTests := true, laidLooks := .later }
def GateApartCardSaid : Prop := Claim7.holds Tryd.pinned (.plain (OpenSpec.ofChange gateApartSpec)) gateApartCard

/-- THE SECOND FORM's CARD OF 'mantletlaw14.GatePacks'. -/
def gatePacksUptoCard : Claim7 := { stood := { row := gatePacksUptoRow, standIns := [], harness := (true, "c791703f56dd5acebed3a146bc476001a312edccb320747133c07b107c1cbc67"), looks := false }, kinds := [], alts := [], laidByText := true, laidKinds := [.data], laidTests := true, laidLooks := .later }
def GatePacksUptoCardSaid : Prop := Claim7.holds Tryd.pinned (.plain (OpenSpec.upto gatePacksSpec)) gatePacksUptoCard

/-- THE SECOND FORM's CARD OF 'mantletlaw14.GateMoves'. -/
def gateMovesUptoCard : Claim7 := { stood := { row := gateMovesUptoRow, standIns := [], harness := (true, "c791703f56dd5acebed3a146bc476001a312edccb320747133c07b107c1cbc67"), looks := false }, kinds := [], alts := [], laidByText := true, laidKinds := [.data], laidTests := true, laidLooks := .later }
def GateMovesUptoCardSaid : Prop := Claim7.holds Tryd.pinned (.plain (OpenSpec.upto gateMovesSpec)) gateMovesUptoCard

/-- THE SECOND FORM's CARD OF 'mantletlaw14.GateBack'. -/
def gateBackUptoCard : Claim7 := { stood := { row := gateBackUptoRow, standIns := [], harness := (true, "c791703f56dd5acebed3a146bc476001a312edccb320747133c07b107c1cbc67"), looks := false }, kinds := [], alts := [], laidByText := true, laidKinds := [.data], laidTests := true, laidLooks := .later }
def GateBackUptoCardSaid : Prop := Claim7.holds Tryd.pinned (.plain (OpenSpec.upto gateBackSpec)) gateBackUptoCard

/-- THE SECOND FORM's CARD OF 'mantletlaw14.GateApart'. -/
def gateApartUptoCard : Claim7 := { stood := { row := gateApartUptoRow, standIns := [], harness := (true, "c791703f56dd5acebed3a146bc476001a312edccb320747133c07b107c1cbc67"), looks := false }, kinds := [], alts := [], laidByText := true, laidKinds := [.data], laidTests := true, laidLooks := .later }
def GateApartUptoCardSaid : Prop := Claim7.holds Tryd.pinned (.plain (OpenSpec.upto gateApartSpec)) gateApartUptoCard
end Rows
end Go.Proofs.YtgddocpndogigaaDoor
