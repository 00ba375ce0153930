/-
  DERIVED. GIVEN WITH THE SEED: THE CARDS: each row of YtcbdmofdbmimfaaDoorRows.lean that lists a variable, with what it lists TIED to the program's text (the seventh form; the later family's looks); each row that meets fmt, with fmt's text TOLD by the authors' own Lean function (tested against real Go, not proved from fmt's source: count such statements apart). THE CARD IS WHAT COUNTS. Prove the row's statement (the work); the ties are given (YtcbdmofdbmimfaaDoorTie.lean); close each card by the builder's one call (the guide's Derived/Test/ToyasCard.lean, 'card_holds'). Laid BY PROGRAM, IN A SANDBOX (cutbox-door.mjs). By AI agents, Wed Nov 11 2026. No macro, syntax, notation, axiom, sorry.
-/
import Derived.Test.YtcbdmofdbmimfaaDoorRows
import GoSem.ClaimSeven
namespace Go.Proofs.YtcbdmofdbmimfaaDoor
namespace Rows

/-- THE TIED CARD OF 'hostlerlaw02.MaskDrains'. -/
def maskDrainsCard : Claim7 := { stood := { row := maskDrainsRow, standIns := [], harness := (true, "6cbdff36a2de1e70ff84d8f4ead1a205904d75e407e29307a5dc27af76fc8f26"), looks := false }, kinds := [], alts := [], laidByText := true, laidKinds := [.data], laidTests := true, laidLooks := .later }
def MaskDrainsCardSaid : Prop := Claim7.holds Tryd.pinned (.plain (OpenSpec.ofChange maskDrainsSpec)) maskDrainsCard

/-- THE TIED CARD OF 'hostlerlaw02.MaskWhole'. -/
def maskWholeCard : Claim7 := { stood := { row := maskWholeRow, standIns := [], harness := (true, "6cbdff36a2de1e70ff84d8f4ead1a205904d75e407e29307a5dc27af76fc8f26"), looks := false }, kinds := [], alts := [], laidByText := true, laidKinds := [.data], laidTests := true, laidLooks := .later }
def MaskWholeCardSaid : Prop := Claim7.holds Tryd.pinned (.plain (OpenSpec.ofChange maskWholeSpec)) maskWholeCard

/-- THE TIED CARD OF 'hostlerlaw13.IdleRows'. -/
def idleRowsCard : Claim7 := { stood := { row := idleRowsRow, standIns := [], harness := (true, "6cbdff36a2de1e70ff84d8f4ead1a205904d75e407e29307a5dc27af76fc8f26"), looks := false }, kinds := [], alts := [], laidByText := true, laidKinds := [.data], laidTests := true, laidLooks := .later }
def IdleRowsCardSaid : Prop := Claim7.holds Tryd.pinned (.plain (OpenSpec.ofChange idleRowsSpec)) idleRowsCard

/-- THE TIED CARD OF 'hostlerlaw13.IdlePlays'. -/
def idlePlaysCard : Claim7 := { stood := { row := idlePlaysRow, standIns := [], harness := (true, "6cbdff36a2de1e70ff84d8f4ead1a205904d75e407e29307a5dc27af76fc8f26"), looks := false }, kinds := [], alts := [], laidByText := true, laidKinds := [.data], laidTests := true, laidLooks := .later }
def IdlePlaysCardSaid : Prop := Claim7.holds Tryd.pinned (.plain (OpenSpec.ofChange idlePlaysSpec)) idlePlaysCard

/-- THE TIED CARD OF 'hostlerlaw13.IdleOnce'. -/
def idleOnceCard : Claim7 := { stood := { row := idleOnceRow, standIns := [], harness := (true, "6cbdff36a2de1e70ff84d8f4ead1a205904d75e407e29307a5dc27af76fc8f26"), looks := false }, kinds := [], alts := [], laidByText := true, laidKinds := [.data], laidTests := true, laidLooks := .later }
def IdleOnceCardSaid : Prop := Claim7.holds Tryd.pinned (.plain (OpenSpec.ofChange idleOnceSpec)) idleOnceCard

/-- THE SECOND FORM's CARD OF 'hostlerlaw02.MaskDrains'. -/
def maskDrainsUptoCard : Claim7 := { stood := { row := maskDrainsUptoRow, standIns := [], harness := (true, "6cbdff36a2de1e70ff84d8f4ead1a205904d75e407e29307a5dc27af76fc8f26"), looks := false }, kinds := [], alts := [], laidByText := true, laidKinds := [.data], laidTests := true, laidLooks := .later }
def MaskDrainsUptoCardSaid : Prop := Claim7.holds Tryd.pinned (.plain (OpenSpec.upto maskDrainsSpec)) maskDrainsUptoCard

/-- THE SECOND FORM's CARD OF 'hostlerlaw02.MaskWhole'. -/
def maskWholeUptoCard : Claim7 := { stood := { row := maskWholeUptoRow, standIns := [], harness := (true, "6cbdff36a2de1e70ff84d8f4ead1a205904d75e407e29307a5dc27af76fc8f26"), looks := false }, kinds := [], alts := [], laidByText := true, laidKinds := [.data], laidTests := true, laidLooks := .later }
def MaskWholeUptoCardSaid : Prop := Claim7.holds Tryd.pinned (.plain (OpenSpec.upto maskWholeSpec)) maskWholeUptoCard

/-- THE SECOND FORM's CARD OF 'hostlerlaw13.IdleRows'. -/
def idleRowsUptoCard : Claim7 := { stood := { row := idleRowsUptoRow, standIns := [], harness := (true, "6cbdff36a2de1e70ff84d8f4ead1a205904d75e407e29307a5dc27af76fc8f26"), looks := false }, kinds := [], alts := [], laidByText := true, laidKinds := [.data], laidTests := true, laidLooks := .later }
def IdleRowsUptoCardSaid : Prop := Claim7.holds Tryd.pinned (.plain (OpenSpec.upto idleRowsSpec)) idleRowsUptoCard

/-- THE SECOND FORM's CARD OF 'hostlerlaw13.IdlePlays'. -/
def idlePlaysUptoCard : Claim7 := { stood := { row := idlePlaysUptoRow, standIns := [], harness := (true, "6cbdff36a2de1e70ff84d8f4ead1a205904d75e407e29307a5dc27af76fc8f26"), looks := false }, kinds := [], alts := [], laidByText := true, laidKinds := [.data], laidTests := true, laidLooks := .later }
def IdlePlaysUptoCardSaid : Prop := Claim7.holds Tryd.pinned (.plain (OpenSpec.upto idlePlaysSpec)) idlePlaysUptoCard

/-- THE SECOND FORM's CARD OF 'hostlerlaw13.IdleOnce'. -/
def idleOnceUptoCard : Claim7 := { stood := { row := idleOnceUptoRow, standIns := [], harness := (true, "6cbdff36a2de1e70ff84d8f4ead1a205904d75e407e29307a5dc27af76fc8f26"), looks := false }, kinds := [], alts := [], laidByText := true, laidKinds := [.data], laidTests := true, laidLooks := .later }
def IdleOnceUptoCardSaid : Prop := Claim7.holds Tryd.pinned (.plain (OpenSpec.upto idleOnceSpec)) idleOnceUptoCard
end Rows
end Go.Proofs.YtcbdmofdbmimfaaDoor
