/-
  DERIVED. GIVEN WITH THE SEED: THE CARDS: each row of YtlahinefnhfifaaDoorRows.lean that lists a variable, with what it lists TIED to the program's text (the seventh form; the later family's looks); each row that meets fmt, with fmt's text TOLD by the authors' own Lean function (tested against real Go, not proved from fmt's source: count such statements apart). THE CARD IS WHAT COUNTS. Prove the row's statement (the work); the ties are given (YtlahinefnhfifaaDoorTie.lean); close each card by the builder's one call (the guide's Derived/Test/ToyasCard.lean, 'card_holds'). Laid BY PROGRAM, IN A SANDBOX (cutbox-door.mjs). By AI agents, Wed Nov 11 2026. No macro, syntax, notation, axiom, sorry.
-/
import Derived.Test.YtlahinefnhfifaaDoorRows
import GoSem.ClaimSeven
namespace Go.Proofs.YtlahinefnhfifaaDoor
namespace Rows

/-- THE TIED CARD OF 'hostlerlaw14.StatusSteps'. -/
def statusStepsCard : Claim7 := { stood := { row := statusStepsRow, standIns := [], harness := (true, "a241bcdfa59b4707a13fa45ba153dd9cc0ee2ed68b4af55c72cbd6522ba260fd"), looks := false }, kinds := [], alts := [], laidByText := true, laidKinds := [.data, .data], laidTests := true, laidLooks := .later }
def StatusStepsCardSaid : Prop := Claim7.holds Tryd.pinned (.plain (OpenSpec.ofChange statusStepsSpec)) statusStepsCard

/-- THE TIED CARD OF 'hostlerlaw15.EventLegal'. -/
def eventLegalCard : Claim7 := { stood := { row := eventLegalRow, standIns := [], harness := (true, "a241bcdfa59b4707a13fa45ba153dd9cc0ee2ed68b4af55c72cbd6522ba260fd"), looks := false }, kinds := [], alts := [], laidByText := true, laidKinds := [.data, .data, .data], laidTests := true, laidLooks := .later }
def EventLegalCardSaid : Prop := Claim7.holds Tryd.pinned (.plain (OpenSpec.ofChange eventLegalSpec)) eventLegalCard

/-- THE TIED CARD OF 'hostlerlaw15.EventRight'. -/
def eventRightCard : Claim7 := { stood := { row := eventRightRow, standIns := [], harness := (true, "a241bcdfa59b4707a13fa45ba153dd9cc0ee2ed68b4af55c72cbd6522ba260fd"), looks := false }, kinds := [], alts := [], laidByText := true, laidKinds := [.data, .data], laidTests := true, laidLooks := .later }
def EventRightCardSaid : Prop := Claim7.holds Tryd.pinned (.plain (OpenSpec.ofChange eventRightSpec)) eventRightCard

/-- THE TIED CARD OF 'hostlerlaw19.MachRings'. -/
def machRingsCard : Claim7 := { stood := { row := machRingsRow, standIns := [], harness := (true, "a241bcdfa59b4707a13fa45ba153dd9cc0ee2ed68b4af55c72cbd6522ba260fd"), looks := false }, kinds := [], alts := [], laidByText := true, laidKinds := [.data], laidTests := true, laidLooks := .later }
def MachRingsCardSaid : Prop := Claim7.holds Tryd.pinned (.plain (OpenSpec.ofChange machRingsSpec)) machRingsCard

/-- THE TIED CARD OF 'hostlerlaw19.MachPlaces'. -/
def machPlacesCard : Claim7 := { stood := { row := machPlacesRow, standIns := [], harness := (true, "a241bcdfa59b4707a13fa45ba153dd9cc0ee2ed68b4af55c72cbd6522ba260fd"), looks := false }, kinds := [], alts := [], laidByText := true, laidKinds := [.data], laidTests := true, laidLooks := .later }
def MachPlacesCardSaid : Prop := Claim7.holds Tryd.pinned (.plain (OpenSpec.ofChange machPlacesSpec)) machPlacesCard

/-- THE TIED CARD OF 'hostlerlaw19.MachLocks'. -/
def machLocksCard : Claim7 := { stood := { row := machLocksRow, standIns := [], harness := (true, "a241bcdfa59b4707a13fa45ba153dd9cc0ee2ed68b4af55c72cbd6522ba260fd"), looks := false }, kinds := [], alts := [], laidByText := true, laidKinds := [.data], laidTests := true, laidLooks := .later }
def MachLocksCardSaid : Prop := Claim7.holds Tryd.pinned (.plain (OpenSpec.ofChange machLocksSpec)) machLocksCard

/-- THE SECOND FORM's CARD OF 'hostlerlaw14.StatusSteps'. -/
def statusStepsUptoCard : Claim7 := { stood := { row := statusStepsUptoRow, standIns := [], harness := (true, "a241bcdfa59b4707a13fa45ba153dd9cc0ee2ed68b4af55c72cbd6522ba260fd"), looks := false }, kinds := [], alts := [], laidByText := true, laidKinds := [.data, .data], laidTests := true, laidLooks := .later }
def StatusStepsUptoCardSaid : Prop := Claim7.holds Tryd.pinned (.plain (OpenSpec.upto statusStepsSpec)) statusStepsUptoCard

/-- THE SECOND FORM's CARD OF 'hostlerlaw15.EventLegal'. -/
def eventLegalUptoCard : Claim7 := { stood := { row := eventLegalUptoRow, standIns := [], harness := (true, "a241bcdfa59b4707a13fa45ba153dd9cc0ee2ed68b4af55c72cbd6522ba260fd"), looks := false }, kinds := [], alts := [], laidByText := true, laidKinds := [.data, .data, .data], laidTests := true, laidLooks := .later }
def EventLegalUptoCardSaid : Prop := Claim7.holds Tryd.pinned (.plain (OpenSpec.upto eventLegalSpec)) eventLegalUptoCard

/-- THE SECOND FORM's CARD OF 'hostlerlaw15.EventRight'. -/
def eventRightUptoCard : Claim7 := { stood := { row := eventRightUptoRow, standIns := [], harness := (true, "a241bcdfa59b4707a13fa45ba153dd9cc0ee2ed68b4af55c72cbd6522ba260fd"), looks := false }, kinds := [], alts := [], laidByText := true, laidKinds := [.data, .data], laidTests := true, laidLooks := .later }
def EventRightUptoCardSaid : Prop := Claim7.holds Tryd.pinned (.plain (OpenSpec.upto eventRightSpec)) eventRightUptoCard

/-- THE SECOND FORM's CARD OF 'hostlerlaw19.MachRings'. -/
def machRingsUptoCard : Claim7 := { stood := { row := machRingsUptoRow, standIns := [], harness := (true, "a241bcdfa59b4707a13fa45ba153dd9cc0ee2ed68b4af55c72cbd6522ba260fd"), looks := false }, kinds := [], alts := [], laidByText := true, laidKinds := [.data], laidTests := true, laidLooks := .later }
def MachRingsUptoCardSaid : Prop := Claim7.holds Tryd.pinned (.plain (OpenSpec.upto machRingsSpec)) machRingsUptoCard

/-- THE SECOND FORM's CARD OF 'hostlerlaw19.MachPlaces'. -/
def machPlacesUptoCard : Claim7 := { stood := { row := machPlacesUptoRow, standIns := [], harness := (true, "a241bcdfa59b4707a13fa45ba153dd9cc0ee2ed68b4af55c72cbd6522ba260fd"), looks := false }, kinds := [], alts := [], laidByText := true, laidKinds := [.data], laidTests := true, laidLooks := .later }
def MachPlacesUptoCardSaid : Prop := Claim7.holds Tryd.pinned (.plain (OpenSpec.upto machPlacesSpec)) machPlacesUptoCard

/-- THE SECOND FORM's CARD OF 'hostlerlaw19.MachLocks'. -/
def machLocksUptoCard : Claim7 := { stood := { row := machLocksUptoRow, standIns := [], harness := (true, "a241bcdfa59b4707a13fa45ba153dd9cc0ee2ed68b4af55c72cbd6522ba260fd"), looks := false }, kinds := [], alts := [], laidByText := true, laidKinds := [.data], laidTests := true, laidLooks := .later }
def MachLocksUptoCardSaid : Prop := Claim7.holds Tryd.pinned (.plain (OpenSpec.upto machLocksSpec)) machLocksUptoCard
end Rows
end Go.Proofs.YtlahinefnhfifaaDoor
