/-
  DERIVED. GIVEN WITH THE SEED: THE CARDS: each row of YtgfamjbpdomjfaaDoorRows.lean that lists a variable, with what it lists TIED to the program's text (the seventh form; the later family's looks); each row that meets fmt, with fmt's text TOLD by the authors' own Lean function (tested against real Go, not proved from fmt's source: count such statements apart). THE CARD IS WHAT COUNTS. Prove the row's statement (the work); the ties are given (YtgfamjbpdomjfaaDoorTie.lean); close each card by the builder's one call (the guide's Derived/Test/ToyasCard.lean, 'card_holds'). Laid BY PROGRAM, IN A SANDBOX (cutbox-door.mjs). By AI agents, Wed Nov 11 2026. No macro, syntax, notation, axiom, sorry.
-/
import Derived.Test.YtgfamjbpdomjfaaDoorRows
import GoSem.ClaimSeven
namespace Go.Proofs.YtgfamjbpdomjfaaDoor
namespace Rows

/-- THE TIED CARD OF 'hostlerlaw17.ModelAnother'. -/
def modelAnotherCard : Claim7 := { stood := { row := modelAnotherRow, standIns := [], harness := (true, "7e1d999ad437b80fc029a98bf3dfbaab2bcebe197cb5ab063d85b40f91cf430d"), looks := false }, kinds := [], alts := [], laidByText := true, laidKinds := [.data, .data], laidTests := true, laidLooks := .later }
def ModelAnotherCardSaid : Prop := Claim7.holds Tryd.pinned (.plain (OpenSpec.ofChange modelAnotherSpec)) modelAnotherCard

/-- THE TIED CARD OF 'hostlerlaw17.ModelPlays'. -/
def modelPlaysCard : Claim7 := { stood := { row := modelPlaysRow, standIns := [], harness := (true, "7e1d999ad437b80fc029a98bf3dfbaab2bcebe197cb5ab063d85b40f91cf430d"), looks := false }, kinds := [], alts := [], laidByText := true, laidKinds := [.data, .data], laidTests := true, laidLooks := .later }
def ModelPlaysCardSaid : Prop := Claim7.holds Tryd.pinned (.plain (OpenSpec.ofChange modelPlaysSpec)) modelPlaysCard

/-- THE TIED CARD OF 'hostlerlaw17.ModelBounds'. -/
def modelBoundsCard : Claim7 := { stood := { row := modelBoundsRow, standIns := [], harness := (true, "7e1d999ad437b80fc029a98bf3dfbaab2bcebe197cb5ab063d85b40f91cf430d"), looks := false }, kinds := [], alts := [], laidByText := true, laidKinds := [.data, .data], laidTests := true, laidLooks := .later }
def ModelBoundsCardSaid : Prop := Claim7.holds Tryd.pinned (.plain (OpenSpec.ofChange modelBoundsSpec)) modelBoundsCard

/-- THE TIED CARD OF 'hostlerlaw17.ModelKeeps'. -/
def modelKeepsCard : Claim7 := { stood := { row := modelKeepsRow, standIns := [], harness := (true, "7e1d999ad437b80fc029a98bf3dfbaab2bcebe197cb5ab063d85b40f91cf430d"), looks := false }, kinds := [], alts := [], laidByText := true, laidKinds := [.data, .data, .data], laidTests := true, laidLooks := .later }
def ModelKeepsCardSaid : Prop := Claim7.holds Tryd.pinned (.plain (OpenSpec.ofChange modelKeepsSpec)) modelKeepsCard

/-- THE SECOND FORM's CARD OF 'hostlerlaw17.ModelAnother'. -/
def modelAnotherUptoCard : Claim7 := { stood := { row := modelAnotherUptoRow, standIns := [], harness := (true, "7e1d999ad437b80fc029a98bf3dfbaab2bcebe197cb5ab063d85b40f91cf430d"), looks := false }, kinds := [], alts := [], laidByText := true, laidKinds := [.data, .data], laidTests := true, laidLooks := .later }
def ModelAnotherUptoCardSaid : Prop := Claim7.holds Tryd.pinned (.plain (OpenSpec.upto modelAnotherSpec)) modelAnotherUptoCard

/-- THE SECOND FORM's CARD OF 'hostlerlaw17.ModelPlays'. -/
def modelPlaysUptoCard : Claim7 := { stood := { row := modelPlaysUptoRow, standIns := [], harness := (true, "7e1d999ad437b80fc029a98bf3dfbaab2bcebe197cb5ab063d85b40f91cf430d"), looks := false }, kinds := [], alts := [], laidByText := true, laidKinds := [.data, .data], laidTests := true, laidLooks := .later }
def ModelPlaysUptoCardSaid : Prop := Claim7.holds Tryd.pinned (.plain (OpenSpec.upto modelPlaysSpec)) modelPlaysUptoCard

/-- THE SECOND FORM's CARD OF 'hostlerlaw17.ModelBounds'. -/
def modelBoundsUptoCard : Claim7 := { stood := { row := modelBoundsUptoRow, standIns := [], harness := (true, "7e1d999ad437b80fc029a98bf3dfbaab2bcebe197cb5ab063d85b40f91cf430d"), looks := false }, kinds := [], alts := [], laidByText := true, laidKinds := [.data, .data], laidTests := true, laidLooks := .later }
def ModelBoundsUptoCardSaid : Prop := Claim7.holds Tryd.pinned (.plain (OpenSpec.upto modelBoundsSpec)) modelBoundsUptoCard

/-- THE SECOND FORM's CARD OF 'hostlerlaw17.ModelKeeps'. -/
def modelKeepsUptoCard : Claim7 := { stood := { row := modelKeepsUptoRow, standIns := [], harness := (true, "7e1d999ad437b80fc029a98bf3dfbaab2bcebe197cb5ab063d85b40f91cf430d"), looks := false }, kinds := [], alts := [], laidByText := true, laidKinds := [.data, .data, .data], laidTests := true, laidLooks := .later }
def ModelKeepsUptoCardSaid : Prop := Claim7.holds Tryd.pinned (.plain (OpenSpec.upto modelKeepsSpec)) modelKeepsUptoCard
end Rows
end Go.Proofs.YtgfamjbpdomjfaaDoor
