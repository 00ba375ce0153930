/-
  DERIVED. GIVEN WITH THE SEED: THE CARDS: each row of YtnabikoieolfcaaDoorRows.lean that lists a variable, with what it lists TIED to the program's text (the seventh form; the later family's looks); each row that meets fmt, with fmt's text TOLD by the authors' own Lean function (tested against real Go, not proved from fmt's source: count such statements apart). THE CARD IS WHAT COUNTS. Prove the row's statement (the work); the ties are given (YtnabikoieolfcaaDoorTie.lean); close each card by the builder's one call (the guide's Derived/Test/ToyasCard.lean, 'card_holds'). Laid BY PROGRAM, IN A SANDBOX (cutbox-door.mjs). By AI agents, Wed Nov 11 2026. No macro, syntax, notation, axiom, sorry.
-/
import Derived.Test.YtnabikoieolfcaaDoorRows
import GoSem.ClaimSeven
namespace Go.Proofs.YtnabikoieolfcaaDoor
namespace Rows

/-- THE TIED CARD OF 'hostlerlaw13.IdlePlays'. -/
def idlePlaysCard : Claim7 := { stood := { row := idlePlaysRow, standIns := [], harness := (true, "50abf0fbf43885b8e621507e67dacf5fd106a09b0ab82d0bf23f1f7f8303666d"), looks := false }, kinds := [], alts := [], laidByText := true, laidKinds := [.data], laidTests := true, laidLooks := .later }
def IdlePlaysCardSaid : Prop := Claim7.holds Tryd.pinned (.plain (OpenSpec.ofChange idlePlaysSpec)) idlePlaysCard

/-- THE SECOND FORM's CARD OF 'hostlerlaw13.IdlePlays'. -/
def idlePlaysUptoCard : Claim7 := { stood := { row := idlePlaysUptoRow, standIns := [], harness := (true, "50abf0fbf43885b8e621507e67dacf5fd106a09b0ab82d0bf23f1f7f8303666d"), looks := false }, kinds := [], alts := [], laidByText := true, laidKinds := [.data], laidTests := true, laidLooks := .later }
def IdlePlaysUptoCardSaid : Prop := Claim7.holds Tryd.pinned (.plain (OpenSpec.upto idlePlaysSpec)) idlePlaysUptoCard
end Rows
end Go.Proofs.YtnabikoieolfcaaDoor
