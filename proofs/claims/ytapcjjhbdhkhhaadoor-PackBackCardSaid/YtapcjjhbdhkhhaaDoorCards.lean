/-
  DERIVED. GIVEN WITH THE SEED: THE CARDS: each row of YtapcjjhbdhkhhaaDoorRows.lean that lists a variable, with what it lists TIED to the program's text (the seventh form; the later family's looks); each row that meets fmt, with fmt's text TOLD by the authors' own Lean function (tested against real Go, not proved from fmt's source: count such statements apart). THE CARD IS WHAT COUNTS. Prove the row's statement (the work); the ties are given (YtapcjjhbdhkhhaaDoorTie.lean); close each card by the builder's one call (the guide's Derived/Test/ToyasCard.lean, 'card_holds'). Laid BY PROGRAM, IN A SANDBOX (cutbox-door.mjs). By AI agents, Wed Nov 11 2026. No macro, syntax, notation, axiom, sorry.
-/
import Derived.Test.YtapcjjhbdhkhhaaDoorRows
import GoSem.ClaimSeven
namespace Go.Proofs.YtapcjjhbdhkhhaaDoor
namespace Rows

/-- THE TIED CARD OF 'mantletlaw09.PackBuilds'. -/
def packBuildsCard : Claim7 := { stood := { row := packBuildsRow, standIns := [], harness := (true, "c69065c150ac19c853baabb9c5a4623b4e5a0b93052649df09244987349187cb"), looks := false }, kinds := [], alts := [], laidByText := true, laidKinds := [.data], laidTests := true, laidLooks := .later }
def PackBuildsCardSaid : Prop := Claim7.holds Tryd.pinned (.plain (OpenSpec.ofChange packBuildsSpec)) packBuildsCard

/-- THE TIED CARD OF 'mantletlaw09.PackBack'. -/
def packBackCard : Claim7 := { stood := { row := packBackRow, standIns := [], harness := (true, "c69065c150ac19c853baabb9c5a4623b4e5a0b93052649df09244987349187cb"), looks := false }, kinds := [], alts := [], laidByText := true, laidKinds := [.data], laidTests := true, laidLooks := .later }
def PackBackCardSaid : Prop := Claim7.holds Tryd.pinned (.plain (OpenSpec.ofChange packBackSpec)) packBackCard

/-- THE TIED CARD OF 'mantletlaw09.PackUnlike'. -/
def packUnlikeCard : Claim7 := { stood := { row := packUnlikeRow, standIns := [], harness := (true, "c69065c150ac19c853baabb9c5a4623b4e5a0b93052649df09244987349187cb"), looks := false }, kinds := [], alts := [], laidByText := true, laidKinds := [.data], laidTests := true, laidLooks := .later }
def PackUnlikeCardSaid : Prop := Claim7.holds Tryd.pinned (.plain (OpenSpec.ofChange packUnlikeSpec)) packUnlikeCard

/-- THE SECOND FORM's CARD OF 'mantletlaw09.PackBuilds'. -/
def packBuildsUptoCard : Claim7 := { stood := { row := packBuildsUptoRow, standIns := [], harness := (true, "c69065c150ac19c853baabb9c5a4623b4e5a0b93052649df09244987349187cb"), looks := false }, kinds := [], alts := [], laidByText := true, laidKinds := [.data], laidTests := true, laidLooks := .later }
def PackBuildsUptoCardSaid : Prop := Claim7.holds Tryd.pinned (.plain (OpenSpec.upto packBuildsSpec)) packBuildsUptoCard

/-- THE SECOND FORM's CARD OF 'mantletlaw09.PackBack'. -/
def packBackUptoCard : Claim7 := { stood := { row := packBackUptoRow, standIns := [], harness := (true, "c69065c150ac19c853baabb9c5a4623b4e5a0b93052649df09244987349187cb"), looks := false }, kinds := [], alts := [], laidByText := true, laidKinds := [.data], laidTests := true, laidLooks := .later }
def PackBackUptoCardSaid : Prop := Claim7.holds Tryd.pinned (.plain (OpenSpec.upto packBackSpec)) packBackUptoCard

/-- THE SECOND FORM's CARD OF 'mantletlaw09.PackUnlike'. -/
def packUnlikeUptoCard : Claim7 := { stood := { row := packUnlikeUptoRow, standIns := [], harness := (true, "c69065c150ac19c853baabb9c5a4623b4e5a0b93052649df09244987349187cb"), looks := false }, kinds := [], alts := [], laidByText := true, laidKinds := [.data], laidTests := true, laidLooks := .later }
def PackUnlikeUptoCardSaid : Prop := Claim7.holds Tryd.pinned (.plain (OpenSpec.upto packUnlikeSpec)) packUnlikeUptoCard
end Rows
end Go.Proofs.YtapcjjhbdhkhhaaDoor
