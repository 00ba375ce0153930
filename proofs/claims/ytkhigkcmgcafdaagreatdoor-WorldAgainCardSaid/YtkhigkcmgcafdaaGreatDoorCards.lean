/-
  DERIVED. GIVEN WITH THE SEED: THE CARDS: each row of YtkhigkcmgcafdaaGreatDoorRows.lean that lists a variable, with what it lists TIED to the program's text (the seventh form; the later family's looks); each row that meets fmt, with fmt's text TOLD by the authors' own Lean function (tested against real Go, not proved from fmt's source: count such statements apart). THE CARD IS WHAT COUNTS. Prove the row's statement (the work); the ties are given (YtkhigkcmgcafdaaGreatDoorTie.lean); close each card by the builder's one call (the guide's Derived/Test/ToyasCard.lean, 'card_holds'). Laid BY PROGRAM, IN A SANDBOX (cutbox-door.mjs). By AI agents, Wed Nov 11 2026. No macro, syntax, notation, axiom, sorry.
-/
import Derived.Test.YtkhigkcmgcafdaaGreatDoorRows
import GoSem.ClaimSeven
namespace Go.Proofs.YtkhigkcmgcafdaaGreatDoor
namespace Rows

/-- THE TIED CARD OF 'hostlerlaw20.WorldAgain'. -/
def worldAgainCard : Claim7 := { stood := { row := worldAgainRow, standIns := [], harness := (true, "a9503fbc893ce2c1639ba41e1d6630e7812d218df16e25563e8e33bb26cd7901"), looks := true }, kinds := [], alts := [], laidByText := true, laidKinds := [.data, .data, .data, .data], laidTests := true, laidLooks := .later }
def WorldAgainCardSaid : Prop := Claim7.holds Tryz.pinned (.plain (OpenSpec.ofChange worldAgainSpec)) worldAgainCard

/-- THE TIED CARD OF 'hostlerlaw22.RoundUntil'. -/
def roundUntilCard : Claim7 := { stood := { row := roundUntilRow, standIns := [], harness := (true, "a9503fbc893ce2c1639ba41e1d6630e7812d218df16e25563e8e33bb26cd7901"), looks := true }, kinds := [], alts := [], laidByText := true, laidKinds := [.data, .data, .data, .data], laidTests := true, laidLooks := .later }
def RoundUntilCardSaid : Prop := Claim7.holds Tryz.pinned (.plain (OpenSpec.ofChange roundUntilSpec)) roundUntilCard

/-- THE TIED CARD OF 'hostlerlaw25.TraceFrom'. -/
def traceFromCard : Claim7 := { stood := { row := traceFromRow, standIns := [], harness := (true, "a9503fbc893ce2c1639ba41e1d6630e7812d218df16e25563e8e33bb26cd7901"), looks := true }, kinds := [], alts := [], laidByText := true, laidKinds := [.data, .data, .data, .data], laidTests := true, laidLooks := .later }
def TraceFromCardSaid : Prop := Claim7.holds Tryz.pinned (.plain (OpenSpec.ofChange traceFromSpec)) traceFromCard

/-- THE SECOND FORM's CARD OF 'hostlerlaw20.WorldAgain'. -/
def worldAgainUptoCard : Claim7 := { stood := { row := worldAgainUptoRow, standIns := [], harness := (true, "a9503fbc893ce2c1639ba41e1d6630e7812d218df16e25563e8e33bb26cd7901"), looks := true }, kinds := [], alts := [], laidByText := true, laidKinds := [.data, .data, .data, .data], laidTests := true, laidLooks := .later }
def WorldAgainUptoCardSaid : Prop := Claim7.holds Tryz.pinned (.plain (OpenSpec.upto worldAgainSpec)) worldAgainUptoCard

/-- THE SECOND FORM's CARD OF 'hostlerlaw22.RoundUntil'. -/
def roundUntilUptoCard : Claim7 := { stood := { row := roundUntilUptoRow, standIns := [], harness := (true, "a9503fbc893ce2c1639ba41e1d6630e7812d218df16e25563e8e33bb26cd7901"), looks := true }, kinds := [], alts := [], laidByText := true, laidKinds := [.data, .data, .data, .data], laidTests := true, laidLooks := .later }
def RoundUntilUptoCardSaid : Prop := Claim7.holds Tryz.pinned (.plain (OpenSpec.upto roundUntilSpec)) roundUntilUptoCard

/-- THE SECOND FORM's CARD OF 'hostlerlaw25.TraceFrom'. -/
def traceFromUptoCard : Claim7 := { stood := { row := traceFromUptoRow, standIns := [], harness := (true, "a9503fbc893ce2c1639ba41e1d6630e7812d218df16e25563e8e33bb26cd7901"), looks := true }, kinds := [], alts := [], laidByText := true, laidKinds := [.data, .data, .data, .data], laidTests := true, laidLooks := .later }
def TraceFromUptoCardSaid : Prop := Claim7.holds Tryz.pinned (.plain (OpenSpec.upto traceFromSpec)) traceFromUptoCard
end Rows
end Go.Proofs.YtkhigkcmgcafdaaGreatDoor
