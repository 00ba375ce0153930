/-
  DERIVED. GIVEN WITH THE SEED: THE CARDS: each row of YtlgkjaeijceekaaGreatDoorRows.lean that lists a variable, with what it lists TIED to the program's text (the seventh form; the later family's looks); each row that meets fmt, with fmt's text TOLD by the authors' own Lean function (tested against real Go, not proved from fmt's source: count such statements apart). THE CARD IS WHAT COUNTS. Prove the row's statement (the work); the ties are given (YtlgkjaeijceekaaGreatDoorTie.lean); close each card by the builder's one call (the guide's Derived/Test/ToyasCard.lean, 'card_holds'). Laid BY PROGRAM, IN A SANDBOX (cutbox-door.mjs). By AI agents, Wed Nov 11 2026. No macro, syntax, notation, axiom, sorry.
-/
import Derived.Test.YtlgkjaeijceekaaGreatDoorRows
import GoSem.ClaimSeven
namespace Go.Proofs.YtlgkjaeijceekaaGreatDoor
namespace Rows

/-- THE TIED CARD OF 'hostlerlaw23.QuietNames'. -/
def quietNamesCard : Claim7 := { stood := { row := quietNamesRow, standIns := [], harness := (true, "8fd2da228c4dcd1bdfc5b6479df627c2f5b6ab51d23549211c6a977498d2f7d0"), looks := true }, kinds := [], alts := [], laidByText := true, laidKinds := [.data, .data, .data, .data], laidTests := true, laidLooks := .later }
def QuietNamesCardSaid : Prop := Claim7.holds Tryz.pinned (.plain (OpenSpec.ofChange quietNamesSpec)) quietNamesCard

/-- THE TIED CARD OF 'hostlerlaw27.TallyJoins'. -/
def tallyJoinsCard : Claim7 := { stood := { row := tallyJoinsRow, standIns := [], harness := (true, "8fd2da228c4dcd1bdfc5b6479df627c2f5b6ab51d23549211c6a977498d2f7d0"), looks := true }, kinds := [], alts := [], laidByText := true, laidKinds := [.data, .data, .data, .data], laidTests := true, laidLooks := .later }
def TallyJoinsCardSaid : Prop := Claim7.holds Tryz.pinned (.plain (OpenSpec.ofChange tallyJoinsSpec)) tallyJoinsCard

/-- THE TIED CARD OF 'hostlerlaw27.TallyRows'. -/
def tallyRowsCard : Claim7 := { stood := { row := tallyRowsRow, standIns := [], harness := (true, "8fd2da228c4dcd1bdfc5b6479df627c2f5b6ab51d23549211c6a977498d2f7d0"), looks := true }, kinds := [], alts := [], laidByText := true, laidKinds := [.data, .data, .data, .data], laidTests := true, laidLooks := .later }
def TallyRowsCardSaid : Prop := Claim7.holds Tryz.pinned (.plain (OpenSpec.ofChange tallyRowsSpec)) tallyRowsCard

/-- THE SECOND FORM's CARD OF 'hostlerlaw23.QuietNames'. -/
def quietNamesUptoCard : Claim7 := { stood := { row := quietNamesUptoRow, standIns := [], harness := (true, "8fd2da228c4dcd1bdfc5b6479df627c2f5b6ab51d23549211c6a977498d2f7d0"), looks := true }, kinds := [], alts := [], laidByText := true, laidKinds := [.data, .data, .data, .data], laidTests := true, laidLooks := .later }
def QuietNamesUptoCardSaid : Prop := Claim7.holds Tryz.pinned (.plain (OpenSpec.upto quietNamesSpec)) quietNamesUptoCard

/-- THE SECOND FORM's CARD OF 'hostlerlaw27.TallyJoins'. -/
def tallyJoinsUptoCard : Claim7 := { stood := { row := tallyJoinsUptoRow, standIns := [], harness := (true, "8fd2da228c4dcd1bdfc5b6479df627c2f5b6ab51d23549211c6a977498d2f7d0"), looks := true }, kinds := [], alts := [], laidByText := true, laidKinds := [.data, .data, .data, .data], laidTests := true, laidLooks := .later }
def TallyJoinsUptoCardSaid : Prop := Claim7.holds Tryz.pinned (.plain (OpenSpec.upto tallyJoinsSpec)) tallyJoinsUptoCard

/-- THE SECOND FORM's CARD OF 'hostlerlaw27.TallyRows'. -/
def tallyRowsUptoCard : Claim7 := { stood := { row := tallyRowsUptoRow, standIns := [], harness := (true, "8fd2da228c4dcd1bdfc5b6479df627c2f5b6ab51d23549211c6a977498d2f7d0"), looks := true }, kinds := [], alts := [], laidByText := true, laidKinds := [.data, .data, .data, .data], laidTests := true, laidLooks := .later }
def TallyRowsUptoCardSaid : Prop := Claim7.holds Tryz.pinned (.plain (OpenSpec.upto tallyRowsSpec)) tallyRowsUptoCard
end Rows
end Go.Proofs.YtlgkjaeijceekaaGreatDoor
