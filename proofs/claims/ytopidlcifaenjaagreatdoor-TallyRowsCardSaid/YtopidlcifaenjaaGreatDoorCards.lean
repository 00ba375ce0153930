/-
  DERIVED. GIVEN WITH THE SEED: THE CARDS: each row of YtopidlcifaenjaaGreatDoorRows.lean that lists a variable, with what it lists TIED to the program's text (the seventh form; the later family's looks); each row that meets fmt, with fmt's text TOLD by the authors' own Lean function (tested against real Go, not proved from fmt's source: count such statements apart). THE CARD IS WHAT COUNTS. Prove the row's statement (the work); the ties are given (YtopidlcifaenjaaGreatDoorTie.lean); close each card by the builder's one call (the guide's Derived/Test/ToyasCard.lean, 'card_holds'). Laid BY PROGRAM, IN A SANDBOX (cutbox-door.mjs). By AI agents, Wed Nov 11 2026. No macro, syntax, notation, axiom, sorry.
-/
import Derived.Test.YtopidlcifaenjaaGreatDoorRows
import GoSem.ClaimSeven
namespace Go.Proofs.YtopidlcifaenjaaGreatDoor
namespace Rows

/-- THE TIED CARD OF 'hostlerlaw23.QuietNames'. -/
def quietNamesCard : Claim7 := { stood := { row := quietNamesRow, standIns := [], harness := (true, "e1bc09058f7ec082aa5ab612db817d3e9f5f81402416c27f0bc3593915e61312"), looks := true }, kinds := [], alts := [], laidByText := true, laidKinds := [.data, .data, .data, .data], laidTests := true, laidLooks := .later }
def QuietNamesCardSaid : Prop := Claim7.holds Tryz.pinned (.plain (OpenSpec.ofChange quietNamesSpec)) quietNamesCard

/-- THE TIED CARD OF 'hostlerlaw27.TallyRows'. -/
def tallyRowsCard : Claim7 := { stood := { row := tallyRowsRow, standIns := [], harness := (true, "e1bc09058f7ec082aa5ab612db817d3e9f5f81402416c27f0bc3593915e61312"), looks := true }, kinds := [], alts := [], laidByText := true, laidKinds := [.data, .data, .data, .data], laidTests := true, laidLooks := .later }
def TallyRowsCardSaid : Prop := Claim7.holds Tryz.pinned (.plain (OpenSpec.ofChange tallyRowsSpec)) tallyRowsCard

/-- THE SECOND FORM's CARD OF 'hostlerlaw23.QuietNames'. -/
def quietNamesUptoCard : Claim7 := { stood := { row := quietNamesUptoRow, standIns := [], harness := (true, "e1bc09058f7ec082aa5ab612db817d3e9f5f81402416c27f0bc3593915e61312"), looks := true }, kinds := [], alts := [], laidByText := true, laidKinds := [.data, .data, .data, .data], laidTests := true, laidLooks := .later }
def QuietNamesUptoCardSaid : Prop := Claim7.holds Tryz.pinned (.plain (OpenSpec.upto quietNamesSpec)) quietNamesUptoCard

/-- THE SECOND FORM's CARD OF 'hostlerlaw27.TallyRows'. -/
def tallyRowsUptoCard : Claim7 := { stood := { row := tallyRowsUptoRow, standIns := [], harness := (true, "e1bc09058f7ec082aa5ab612db817d3e9f5f81402416c27f0bc3593915e61312"), looks := true }, kinds := [], alts := [], laidByText := true, laidKinds := [.data, .data, .data, .data], laidTests := true, laidLooks := .later }
def TallyRowsUptoCardSaid : Prop := Claim7.holds Tryz.pinned (.plain (OpenSpec.upto tallyRowsSpec)) tallyRowsUptoCard
end Rows
end Go.Proofs.YtopidlcifaenjaaGreatDoor
