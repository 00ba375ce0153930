/-
  DERIVED. GIVEN WITH THE SEED: THE CARDS: each row of YtfilocmoffpjmaaDoorRows.lean that lists a variable, with what it lists TIED to the program's text (the seventh form; the later family's looks); each row that meets fmt, with fmt's text TOLD by the authors' own Lean function (tested against real Go, not proved from fmt's source: count such statements apart). THE CARD IS WHAT COUNTS. Prove the row's statement (the work); the ties are given (YtfilocmoffpjmaaDoorTie.lean); close each card by the builder's one call (the guide's Derived/Test/ToyasCard.lean, 'card_holds'). Laid BY PROGRAM, IN A SANDBOX (cutbox-door.mjs). By AI agents, Wed Nov 11 2026. No macro, syntax, notation, axiom, sorry.
-/
import Derived.Test.YtfilocmoffpjmaaDoorRows
import GoSem.ClaimSeven
namespace Go.Proofs.YtfilocmoffpjmaaDoor
namespace Rows

/-- THE TIED CARD OF 'hostlerlaw15.EventLogs'. -/
def eventLogsCard : Claim7 := { stood := { row := eventLogsRow, standIns := [], harness := (true, "e0c9c8121271788673b8aaf1c2e88ed11e9a1b114a07239bea4f2e62220e36e0"), looks := false }, kinds := [], alts := [], laidByText := true, laidKinds := [.data, .data], laidTests := true, laidLooks := .later }
def EventLogsCardSaid : Prop := Claim7.holds Tryd.pinned (.plain (OpenSpec.ofChange eventLogsSpec)) eventLogsCard

/-- THE SECOND FORM's CARD OF 'hostlerlaw15.EventLogs'. -/
def eventLogsUptoCard : Claim7 := { stood := { row := eventLogsUptoRow, standIns := [], harness := (true, "e0c9c8121271788673b8aaf1c2e88ed11e9a1b114a07239bea4f2e62220e36e0"), looks := false }, kinds := [], alts := [], laidByText := true, laidKinds := [.data, .data], laidTests := true, laidLooks := .later }
def EventLogsUptoCardSaid : Prop := Claim7.holds Tryd.pinned (.plain (OpenSpec.upto eventLogsSpec)) eventLogsUptoCard
end Rows
end Go.Proofs.YtfilocmoffpjmaaDoor
