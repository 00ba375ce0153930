/-
  DERIVED. GIVEN WITH THE SEED: THE CARDS: each row of YtbplbdopnhnhdaaGreatDoorRows.lean that lists a variable, with what it lists TIED to the program's text (the seventh form; the later family's looks); each row that meets fmt, with fmt's text TOLD by the authors' own Lean function (tested against real Go, not proved from fmt's source: count such statements apart). THE CARD IS WHAT COUNTS. Prove the row's statement (the work); the ties are given (YtbplbdopnhnhdaaGreatDoorTie.lean); close each card by the builder's one call (the guide's Derived/Test/ToyasCard.lean, 'card_holds'). Laid BY PROGRAM, IN A SANDBOX (cutbox-door.mjs). By AI agents, Wed Nov 11 2026. No macro, syntax, notation, axiom, sorry.
-/
import Derived.Test.YtbplbdopnhnhdaaGreatDoorRows
import GoSem.ClaimSeven
namespace Go.Proofs.YtbplbdopnhnhdaaGreatDoor
namespace Rows

/-- THE TIED CARD OF 'hostlerlaw26.BoxedTexts'. -/
def boxedTextsCard : Claim7 := { stood := { row := boxedTextsRow, standIns := [], harness := (true, "bc3b9e672ab0d6aeda599c73db75cfd7a80a3987c49b0644563fde450f2e08f2"), looks := true }, kinds := [], alts := [], laidByText := true, laidKinds := [.data, .data, .data, .data], laidTests := true, laidLooks := .later }
def BoxedTextsCardSaid : Prop := Claim7.holds Tryz.pinned (.plain (OpenSpec.ofChange boxedTextsSpec)) boxedTextsCard

/-- THE TIED CARD OF 'hostlerlaw26.BoxedMust'. -/
def boxedMustCard : Claim7 := { stood := { row := boxedMustRow, standIns := [], harness := (true, "bc3b9e672ab0d6aeda599c73db75cfd7a80a3987c49b0644563fde450f2e08f2"), looks := true }, kinds := [], alts := [], laidByText := true, laidKinds := [.data, .data, .data, .data], laidTests := true, laidLooks := .later }
def BoxedMustCardSaid : Prop := Claim7.holds Tryz.pinned (.plain (OpenSpec.ofChange boxedMustSpec)) boxedMustCard

/-- THE TIED CARD OF 'hostlerlaw26.BoxedSteps'. -/
def boxedStepsCard : Claim7 := { stood := { row := boxedStepsRow, standIns := [], harness := (true, "bc3b9e672ab0d6aeda599c73db75cfd7a80a3987c49b0644563fde450f2e08f2"), looks := true }, kinds := [], alts := [], laidByText := true, laidKinds := [.data, .data, .data, .data], laidTests := true, laidLooks := .later }
def BoxedStepsCardSaid : Prop := Claim7.holds Tryz.pinned (.plain (OpenSpec.ofChange boxedStepsSpec)) boxedStepsCard

/-- THE SECOND FORM's CARD OF 'hostlerlaw26.BoxedTexts'. -/
def boxedTextsUptoCard : Claim7 := { stood := { row := boxedTextsUptoRow, standIns := [], harness := (true, "bc3b9e672ab0d6aeda599c73db75cfd7a80a3987c49b0644563fde450f2e08f2"), looks := true }, kinds := [], alts := [], laidByText := true, laidKinds := [.data, .data, .data, .data], laidTests := true, laidLooks := .later }
def BoxedTextsUptoCardSaid : Prop := Claim7.holds Tryz.pinned (.plain (OpenSpec.upto boxedTextsSpec)) boxedTextsUptoCard

/-- THE SECOND FORM's CARD OF 'hostlerlaw26.BoxedMust'. -/
def boxedMustUptoCard : Claim7 := { stood := { row := boxedMustUptoRow, standIns := [], harness := (true, "bc3b9e672ab0d6aeda599c73db75cfd7a80a3987c49b0644563fde450f2e08f2"), looks := true }, kinds := [], alts := [], laidByText := true, laidKinds := [.data, .data, .data, .data], laidTests := true, laidLooks := .later }
def BoxedMustUptoCardSaid : Prop := Claim7.holds Tryz.pinned (.plain (OpenSpec.upto boxedMustSpec)) boxedMustUptoCard

/-- THE SECOND FORM's CARD OF 'hostlerlaw26.BoxedSteps'. -/
def boxedStepsUptoCard : Claim7 := { stood := { row := boxedStepsUptoRow, standIns := [], harness := (true, "bc3b9e672ab0d6aeda599c73db75cfd7a80a3987c49b0644563fde450f2e08f2"), looks := true }, kinds := [], alts := [], laidByText := true, laidKinds := [.data, .data, .data, .data], laidTests := true, laidLooks := .later }
def BoxedStepsUptoCardSaid : Prop := Claim7.holds Tryz.pinned (.plain (OpenSpec.upto boxedStepsSpec)) boxedStepsUptoCard
end Rows
end Go.Proofs.YtbplbdopnhnhdaaGreatDoor
