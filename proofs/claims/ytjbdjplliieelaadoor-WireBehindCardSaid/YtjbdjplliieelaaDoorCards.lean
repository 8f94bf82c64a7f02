/-
  DERIVED. GIVEN WITH THE SEED: THE CARDS: each row of YtjbdjplliieelaaDoorRows.lean that lists a variable, with what it lists TIED to the program's text (the seventh form; the later family's looks); each row that meets fmt, with fmt's text TOLD by the authors' own Lean function (tested against real Go, not proved from fmt's source: count such statements apart). THE CARD IS WHAT COUNTS. Prove the row's statement (the work); the ties are given (YtjbdjplliieelaaDoorTie.lean); close each card by the builder's one call (the guide's Derived/Test/ToyasCard.lean, 'card_holds'). Laid BY PROGRAM, IN A SANDBOX (cutbox-door.mjs). By AI agents, Wed Nov 11 2026. No macro, syntax, notation, axiom, sorry.
-/
import Derived.Test.YtjbdjplliieelaaDoorRows
import GoSem.ClaimSeven
namespace Go.Proofs.YtjbdjplliieelaaDoor
namespace Rows

/-- THE TIED CARD OF 'mantletlaw08.WireParses'. -/
def wireParsesCard : Claim7 := { stood := { row := wireParsesRow, standIns := [], harness := (true, "bd6aaea243c13eba7e41617edd50dd84b8d1c476226fd5b05d548e62b8d7a186"), looks := false }, kinds := [], alts := [], laidByText := true, laidKinds := [.data], laidTests := true, laidLooks := .later }
def WireParsesCardSaid : Prop := Claim7.holds Tryd.pinned (.plain (OpenSpec.ofChange wireParsesSpec)) wireParsesCard

/-- THE TIED CARD OF 'mantletlaw08.WireSane'. -/
def wireSaneCard : Claim7 := { stood := { row := wireSaneRow, standIns := [], harness := (true, "bd6aaea243c13eba7e41617edd50dd84b8d1c476226fd5b05d548e62b8d7a186"), looks := false }, kinds := [], alts := [], laidByText := true, laidKinds := [.data], laidTests := true, laidLooks := .later }
def WireSaneCardSaid : Prop := Claim7.holds Tryd.pinned (.plain (OpenSpec.ofChange wireSaneSpec)) wireSaneCard

/-- THE TIED CARD OF 'mantletlaw08.WireBehind'. -/
def wireBehindCard : Claim7 := { stood := { row := wireBehindRow, standIns := [], harness := (true, "bd6aaea243c13eba7e41617edd50dd84b8d1c476226fd5b05d548e62b8d7a186"), looks := false }, kinds := [], alts := [], laidByText := true, laidKinds := [.data], laidTests := true, laidLooks := .later }
def WireBehindCardSaid : Prop := Claim7.holds Tryd.pinned (.plain (OpenSpec.ofChange wireBehindSpec)) wireBehindCard

/-- THE SECOND FORM's CARD OF 'mantletlaw08.WireParses'. -/
def wireParsesUptoCard : Claim7 := { stood := { row := wireParsesUptoRow, standIns := [], harness := (true, "bd6aaea243c13eba7e41617edd50dd84b8d1c476226fd5b05d548e62b8d7a186"), looks := false }, kinds := [], alts := [], laidByText := true, laidKinds := [.data], laidTests := true, laidLooks := .later }
def WireParsesUptoCardSaid : Prop := Claim7.holds Tryd.pinned (.plain (OpenSpec.upto wireParsesSpec)) wireParsesUptoCard

/-- THE SECOND FORM's CARD OF 'mantletlaw08.WireSane'. -/
def wireSaneUptoCard : Claim7 := { stood := { row := wireSaneUptoRow, standIns := [], harness := (true, "bd6aaea243c13eba7e41617edd50dd84b8d1c476226fd5b05d548e62b8d7a186"), looks := false }, kinds := [], alts := [], laidByText := true, laidKinds := [.data], laidTests := true, laidLooks := .later }
def WireSaneUptoCardSaid : Prop := Claim7.holds Tryd.pinned (.plain (OpenSpec.upto wireSaneSpec)) wireSaneUptoCard

/-- THE SECOND FORM's CARD OF 'mantletlaw08.WireBehind'. -/
def wireBehindUptoCard : Claim7 := { stood := { row := wireBehindUptoRow, standIns := [], harness := (true, "bd6aaea243c13eba7e41617edd50dd84b8d1c476226fd5b05d548e62b8d7a186"), looks := false }, kinds := [], alts := [], laidByText := true, laidKinds := [.data], laidTests := true, laidLooks := .later }
def WireBehindUptoCardSaid : Prop := Claim7.holds Tryd.pinned (.plain (OpenSpec.upto wireBehindSpec)) wireBehindUptoCard
end Rows
end Go.Proofs.YtjbdjplliieelaaDoor
