/-
  DERIVED. GIVEN WITH THE SEED: THE CARDS: each row of YtfpkgkjmpcoppaaGreatDoorRows.lean that lists a variable, with what it lists TIED to the program's text (the seventh form; the later family's looks); each row that meets fmt, with fmt's text TOLD by the authors' own Lean function (tested against real Go, not proved from fmt's source: count such statements apart). THE CARD IS WHAT COUNTS. Prove the row's statement (the work); the ties are given (YtfpkgkjmpcoppaaGreatDoorTie.lean); close each card by the builder's one call (the guide's Derived/Test/ToyasCard.lean, 'card_holds'). Laid BY PROGRAM, IN A SANDBOX (cutbox-door.mjs). By AI agents, Wed Nov 11 2026. No macro, syntax, notation, axiom, sorry.
-/
import Derived.Test.YtfpkgkjmpcoppaaGreatDoorRows
import GoSem.ClaimSeven
namespace Go.Proofs.YtfpkgkjmpcoppaaGreatDoor
namespace Rows

/-- THE TIED CARD OF 'hostlerlaw20.WorldConfigs'. -/
def worldConfigsCard : Claim7 := { stood := { row := worldConfigsRow, standIns := [], harness := (true, "8bfd6c1b54dbb20cb4aeddeea9e8010aa2ee00fb1cabd5aee673d5f0b9095bf7"), looks := true }, kinds := [], alts := [], laidByText := true, laidKinds := [.data, .data, .data, .data], laidTests := true, laidLooks := .later }
def WorldConfigsCardSaid : Prop := Claim7.holds Tryz.pinned (.plain (OpenSpec.ofChange worldConfigsSpec)) worldConfigsCard

/-- THE TIED CARD OF 'hostlerlaw21.ScriptConfigs'. -/
def scriptConfigsCard : Claim7 := { stood := { row := scriptConfigsRow, standIns := [], harness := (true, "8bfd6c1b54dbb20cb4aeddeea9e8010aa2ee00fb1cabd5aee673d5f0b9095bf7"), looks := true }, kinds := [], alts := [], laidByText := true, laidKinds := [.data, .data, .data, .data, .data, .data, .data], laidTests := true, laidLooks := .later }
def ScriptConfigsCardSaid : Prop := Claim7.holds Tryz.pinned (.plain (OpenSpec.ofChange scriptConfigsSpec)) scriptConfigsCard

/-- THE TIED CARD OF 'hostlerlaw23.QuietNames'. -/
def quietNamesCard : Claim7 := { stood := { row := quietNamesRow, standIns := [], harness := (true, "8bfd6c1b54dbb20cb4aeddeea9e8010aa2ee00fb1cabd5aee673d5f0b9095bf7"), looks := true }, kinds := [], alts := [], laidByText := true, laidKinds := [.data, .data, .data, .data], laidTests := true, laidLooks := .later }
def QuietNamesCardSaid : Prop := Claim7.holds Tryz.pinned (.plain (OpenSpec.ofChange quietNamesSpec)) quietNamesCard

/-- THE TIED CARD OF 'hostlerlaw24.BoundNumbers'. -/
def boundNumbersCard : Claim7 := { stood := { row := boundNumbersRow, standIns := [], harness := (true, "8bfd6c1b54dbb20cb4aeddeea9e8010aa2ee00fb1cabd5aee673d5f0b9095bf7"), looks := true }, kinds := [], alts := [], laidByText := true, laidKinds := [.data, .data, .data, .data], laidTests := true, laidLooks := .later }
def BoundNumbersCardSaid : Prop := Claim7.holds Tryz.pinned (.plain (OpenSpec.ofChange boundNumbersSpec)) boundNumbersCard

/-- THE TIED CARD OF 'hostlerlaw28.ExploreErrors'. -/
def exploreErrorsCard : Claim7 := { stood := { row := exploreErrorsRow, standIns := [], harness := (true, "8bfd6c1b54dbb20cb4aeddeea9e8010aa2ee00fb1cabd5aee673d5f0b9095bf7"), looks := true }, kinds := [], alts := [], laidByText := true, laidKinds := [.data, .data, .data, .data, .data, .data, .data], laidTests := true, laidLooks := .later }
def ExploreErrorsCardSaid : Prop := Claim7.holds Tryz.pinned (.plain (OpenSpec.ofChange exploreErrorsSpec)) exploreErrorsCard

/-- THE SECOND FORM's CARD OF 'hostlerlaw20.WorldConfigs'. -/
def worldConfigsUptoCard : Claim7 := { stood := { row := worldConfigsUptoRow, standIns := [], harness := (true, "8bfd6c1b54dbb20cb4aeddeea9e8010aa2ee00fb1cabd5aee673d5f0b9095bf7"), looks := true }, kinds := [], alts := [], laidByText := true, laidKinds := [.data, .data, .data, .data], laidTests := true, laidLooks := .later }
def WorldConfigsUptoCardSaid : Prop := Claim7.holds Tryz.pinned (.plain (OpenSpec.upto worldConfigsSpec)) worldConfigsUptoCard

/-- THE SECOND FORM's CARD OF 'hostlerlaw21.ScriptConfigs'. -/
def scriptConfigsUptoCard : Claim7 := { stood := { row := scriptConfigsUptoRow, standIns := [], harness := (true, "8bfd6c1b54dbb20cb4aeddeea9e8010aa2ee00fb1cabd5aee673d5f0b9095bf7"), looks := true }, kinds := [], alts := [], laidByText := true, laidKinds := [.data, .data, .data, .data, .data, .data, .data], laidTests := true, laidLooks := .later }
def ScriptConfigsUptoCardSaid : Prop := Claim7.holds Tryz.pinned (.plain (OpenSpec.upto scriptConfigsSpec)) scriptConfigsUptoCard

/-- THE SECOND FORM's CARD OF 'hostlerlaw23.QuietNames'. -/
def quietNamesUptoCard : Claim7 := { stood := { row := quietNamesUptoRow, standIns := [], harness := (true, "8bfd6c1b54dbb20cb4aeddeea9e8010aa2ee00fb1cabd5aee673d5f0b9095bf7"), looks := true }, kinds := [], alts := [], laidByText := true, laidKinds := [.data, .data, .data, .data], laidTests := true, laidLooks := .later }
def QuietNamesUptoCardSaid : Prop := Claim7.holds Tryz.pinned (.plain (OpenSpec.upto quietNamesSpec)) quietNamesUptoCard

/-- THE SECOND FORM's CARD OF 'hostlerlaw24.BoundNumbers'. -/
def boundNumbersUptoCard : Claim7 := { stood := { row := boundNumbersUptoRow, standIns := [], harness := (true, "8bfd6c1b54dbb20cb4aeddeea9e8010aa2ee00fb1cabd5aee673d5f0b9095bf7"), looks := true }, kinds := [], alts := [], laidByText := true, laidKinds := [.data, .data, .data, .data], laidTests := true, laidLooks := .later }
def BoundNumbersUptoCardSaid : Prop := Claim7.holds Tryz.pinned (.plain (OpenSpec.upto boundNumbersSpec)) boundNumbersUptoCard

/-- THE SECOND FORM's CARD OF 'hostlerlaw28.ExploreErrors'. -/
def exploreErrorsUptoCard : Claim7 := { stood := { row := exploreErrorsUptoRow, standIns := [], harness := (true, "8bfd6c1b54dbb20cb4aeddeea9e8010aa2ee00fb1cabd5aee673d5f0b9095bf7"), looks := true }, kinds := [], alts := [], laidByText := true, laidKinds := [.data, .data, .data, .data, .data, .data, .data], laidTests := true, laidLooks := .later }
def ExploreErrorsUptoCardSaid : Prop := Claim7.holds Tryz.pinned (.plain (OpenSpec.upto exploreErrorsSpec)) exploreErrorsUptoCard
end Rows
end Go.Proofs.YtfpkgkjmpcoppaaGreatDoor
