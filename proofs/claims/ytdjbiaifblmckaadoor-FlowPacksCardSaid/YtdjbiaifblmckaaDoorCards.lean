/-
  DERIVED. GIVEN WITH THE SEED: THE CARDS: each row of YtdjbiaifblmckaaDoorRows.lean that lists a variable, with what it lists TIED to the program's text (the seventh form; the later family's looks); each row that meets fmt, with fmt's text TOLD by the authors' own Lean function (tested against real Go, not proved from fmt's source: count such statements apart). THE CARD IS WHAT COUNTS. Prove the row's statement (the work); the ties are given (YtdjbiaifblmckaaDoorTie.lean); close each card by the builder's one call (the guide's Derived/Test/ToyasCard.lean, 'card_holds'). Laid BY PROGRAM, IN A SANDBOX (cutbox-door.mjs). By AI agents, Wed Nov 11 2026. No macro, syntax, notation, axiom, sorry.
-/
import Derived.Test.YtdjbiaifblmckaaDoorRows
import GoSem.ClaimSeven
namespace Go.Proofs.YtdjbiaifblmckaaDoor
namespace Rows

/-- THE TIED CARD OF 'mantletlaw15.FlowPacks'. -/
def flowPacksCard : Claim7 := { stood := { row := flowPacksRow, standIns := [], harness := (true, "e128db1a294edfc789e578f6aa6b3402552a21e5939fb17d1ddb351771713ac9"), looks := false }, kinds := [], alts := [], laidByText := true, laidKinds := [.data], laidTests := true, laidLooks := .later }
def FlowPacksCardSaid : Prop := Claim7.holds Tryd.pinned (.plain (OpenSpec.ofChange flowPacksSpec)) flowPacksCard

/-- THE TIED CARD OF 'mantletlaw15.FlowNexts'. -/
def flowNextsCard : Claim7 := { stood := { row := flowNextsRow, standIns := [], harness := (true, "e128db1a294edfc789e578f6aa6b3402552a21e5939fb17d1ddb351771713ac9"), looks := false }, kinds := [], alts := [], laidByText := true, laidKinds := [.data], laidTests := true, laidLooks := .later }
def FlowNextsCardSaid : Prop := Claim7.holds Tryd.pinned (.plain (OpenSpec.ofChange flowNextsSpec)) flowNextsCard

/-- THE TIED CARD OF 'mantletlaw15.FlowBack'. -/
def flowBackCard : Claim7 := { stood := { row := flowBackRow, standIns := [], harness := (true, "e128db1a294edfc789e578f6aa6b3402552a21e5939fb17d1ddb351771713ac9"), looks := false }, kinds := [], alts := [], laidByText := true, laidKinds := [.data], laidTests := true, laidLooks := .later }
def FlowBackCardSaid : Prop := Claim7.holds Tryd.pinned (.plain (OpenSpec.ofChange flowBackSpec)) flowBackCard

/-- THE TIED CARD OF 'mantletlaw15.FlowLater'. -/
def flowLaterCard : Claim7 := { stood := { row := flowLaterRow, standIns := [], harness := (true, "e128db1a294edfc789e578f6aa6b3402552a21e5939fb17d1ddb351771713ac9"), looks := false }, kinds := [], alts := [], laidByText := true, laidKinds := [.data], laidTests := true, laidLooks := .later }
def FlowLaterCardSaid : Prop := Claim7.holds Tryd.pinned (.plain (OpenSpec.ofChange flowLaterSpec)) flowLaterCard

/-- THE SECOND FORM's CARD OF 'mantletlaw15.FlowPacks'. -/
def flowPacksUptoCard : Claim7 := { stood := { row := flowPacksUptoRow, standIns := [], harness := (true, "e128db1a294edfc789e578f6aa6b3402552a21e5939fb17d1ddb351771713ac9"), looks := false }, kinds := [], alts := [], laidByText := true, laidKinds := [.data], laidTests := true, laidLooks := .later }
def FlowPacksUptoCardSaid : Prop := Claim7.holds Tryd.pinned (.plain (OpenSpec.upto flowPacksSpec)) flowPacksUptoCard

/-- THE SECOND FORM's CARD OF 'mantletlaw15.FlowNexts'. -/
def flowNextsUptoCard : Claim7 := { stood := { row := flowNextsUptoRow, standIns := [], harness := (true, "e128db1a294edfc789e578f6aa6b3402552a21e5939fb17d1ddb351771713ac9"), looks := false }, kinds := [], alts := [], laidByText := true, laidKinds := [.data], laidTests := true, laidLooks := .later }
def FlowNextsUptoCardSaid : Prop := Claim7.holds Tryd.pinned (.plain (OpenSpec.upto flowNextsSpec)) flowNextsUptoCard

/-- THE SECOND FORM's CARD OF 'mantletlaw15.FlowBack'. -/
def flowBackUptoCard : Claim7 := { stood := { row := flowBackUptoRow, standIns := [], harness := (true, "e128db1a294edfc789e578f6aa6b3402552a21e5939fb17d1ddb351771713ac9"), looks := false }, kinds := [], alts := [], laidByText := true, laidKinds := [.data], laidTests := true, laidLooks := .later }
def FlowBackUptoCardSaid : Prop := Claim7.holds Tryd.pinned (.plain (OpenSpec.upto flowBackSpec)) flowBackUptoCard

/-- THE SECOND FORM's CARD OF 'mantletlaw15.FlowLater'. -/
def flowLaterUptoCard : Claim7 := { stood := { row := flowLaterUptoRow, standIns := [], harness := (true, "e128db1a294edfc789e578f6aa6b3402552a21e5939fb17d1ddb351771713ac9"), looks := false }, kinds := [], alts := [], laidByText := true, laidKinds := [.data], laidTests := true, laidLooks := .later }
def FlowLaterUptoCardSaid : Prop := Claim7.holds Tryd.pinned (.plain (OpenSpec.upto flowLaterSpec)) flowLaterUptoCard
end Rows
end Go.Proofs.YtdjbiaifblmckaaDoor
