/-
  DERIVED. GIVEN WITH THE SEED: THE CARDS: each row of YthamemjkdjambaaDoorRows.lean that lists a variable, with what it lists TIED to the program's text (the seventh form; the later family's looks); each row that meets fmt, with fmt's text TOLD by the authors' own Lean function (tested against real Go, not proved from fmt's source: count such statements apart). THE CARD IS WHAT COUNTS. Prove the row's statement (the work); the ties are given (YthamemjkdjambaaDoorTie.lean); close each card by the builder's one call (the guide's Derived/Test/ToyasCard.lean, 'card_holds'). Laid BY PROGRAM, IN A SANDBOX (cutbox-door.mjs). By AI agents, Wed Nov 11 2026. No macro, syntax, notation, axiom, sorry.
-/
import Derived.Test.YthamemjkdjambaaDoorRows
import GoSem.ClaimSeven
namespace Go.Proofs.YthamemjkdjambaaDoor
namespace Rows

/-- THE TIED CARD OF 'mantletlaw05.TcpParses'. -/
def tcpParsesCard : Claim7 := { stood := { row := tcpParsesRow, standIns := [], harness := (true, "279e6ed5662f7c00c6e746ce605f0bf8d8dd5e84b6541b230493a320bba863d9"), looks := false }, kinds := [], alts := [], laidByText := true, laidKinds := [.data], laidTests := true, laidLooks := .later }
def TcpParsesCardSaid : Prop := Claim7.holds Tryd.pinned (.plain (OpenSpec.ofChange tcpParsesSpec)) tcpParsesCard

/-- THE TIED CARD OF 'mantletlaw05.TcpBuilds'. -/
def tcpBuildsCard : Claim7 := { stood := { row := tcpBuildsRow, standIns := [], harness := (true, "279e6ed5662f7c00c6e746ce605f0bf8d8dd5e84b6541b230493a320bba863d9"), looks := false }, kinds := [], alts := [], laidByText := true, laidKinds := [.data], laidTests := true, laidLooks := .later }
def TcpBuildsCardSaid : Prop := Claim7.holds Tryd.pinned (.plain (OpenSpec.ofChange tcpBuildsSpec)) tcpBuildsCard

/-- THE TIED CARD OF 'mantletlaw05.TcpBack'. -/
def tcpBackCard : Claim7 := { stood := { row := tcpBackRow, standIns := [], harness := (true, "279e6ed5662f7c00c6e746ce605f0bf8d8dd5e84b6541b230493a320bba863d9"), looks := false }, kinds := [], alts := [], laidByText := true, laidKinds := [.data], laidTests := true, laidLooks := .later }
def TcpBackCardSaid : Prop := Claim7.holds Tryd.pinned (.plain (OpenSpec.ofChange tcpBackSpec)) tcpBackCard

/-- THE TIED CARD OF 'mantletlaw05.TcpFlags'. -/
def tcpFlagsCard : Claim7 := { stood := { row := tcpFlagsRow, standIns := [], harness := (true, "279e6ed5662f7c00c6e746ce605f0bf8d8dd5e84b6541b230493a320bba863d9"), looks := false }, kinds := [], alts := [], laidByText := true, laidKinds := [.data], laidTests := true, laidLooks := .later }
def TcpFlagsCardSaid : Prop := Claim7.holds Tryd.pinned (.plain (OpenSpec.ofChange tcpFlagsSpec)) tcpFlagsCard

/-- THE SECOND FORM's CARD OF 'mantletlaw05.TcpParses'. -/
def tcpParsesUptoCard : Claim7 := { stood := { row := tcpParsesUptoRow, standIns := [], harness := (true, "279e6ed5662f7c00c6e746ce605f0bf8d8dd5e84b6541b230493a320bba863d9"), looks := false }, kinds := [], alts := [], laidByText := true, laidKinds := [.data], laidTests := true, laidLooks := .later }
def TcpParsesUptoCardSaid : Prop := Claim7.holds Tryd.pinned (.plain (OpenSpec.upto tcpParsesSpec)) tcpParsesUptoCard

/-- THE SECOND FORM's CARD OF 'mantletlaw05.TcpBuilds'. -/
def tcpBuildsUptoCard : Claim7 := { stood := { row := tcpBuildsUptoRow, standIns := [], harness := (true, "279e6ed5662f7c00c6e746ce605f0bf8d8dd5e84b6541b230493a320bba863d9"), looks := false }, kinds := [], alts := [], laidByText := true, laidKinds := [.data], laidTests := true, laidLooks := .later }
def TcpBuildsUptoCardSaid : Prop := Claim7.holds Tryd.pinned (.plain (OpenSpec.upto tcpBuildsSpec)) tcpBuildsUptoCard

/-- THE SECOND FORM's CARD OF 'mantletlaw05.TcpBack'. -/
def tcpBackUptoCard : Claim7 := { stood := { row := tcpBackUptoRow, standIns := [], harness := (true, "279e6ed5662f7c00c6e746ce605f0bf8d8dd5e84b6541b230493a320bba863d9"), looks := false }, kinds := [], alts := [], laidByText := true, laidKinds := [.data], laidTests := true, laidLooks := .later }
def TcpBackUptoCardSaid : Prop := Claim7.holds Tryd.pinned (.plain (OpenSpec.upto tcpBackSpec)) tcpBackUptoCard

/-- THE SECOND FORM's CARD OF 'mantletlaw05.TcpFlags'. -/
def tcpFlagsUptoCard : Claim7 := { stood := { row := tcpFlagsUptoRow, standIns := [], harness := (true, "279e6ed5662f7c00c6e746ce605f0bf8d8dd5e84b6541b230493a320bba863d9"), looks := false }, kinds := [], alts := [], laidByText := true, laidKinds := [.data], laidTests := true, laidLooks := .later }
def TcpFlagsUptoCardSaid : Prop := Claim7.holds Tryd.pinned (.plain (OpenSpec.upto tcpFlagsSpec)) tcpFlagsUptoCard
end Rows
end Go.Proofs.YthamemjkdjambaaDoor
