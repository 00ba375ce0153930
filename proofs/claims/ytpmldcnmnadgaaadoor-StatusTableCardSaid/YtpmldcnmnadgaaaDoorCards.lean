/-
  DERIVED. GIVEN WITH THE SEED: THE CARDS: each row of YtpmldcnmnadgaaaDoorRows.lean that lists a variable, with what it lists TIED to the program's text (the seventh form; the later family's looks); each row that meets fmt, with fmt's text TOLD by the authors' own Lean function (tested against real Go, not proved from fmt's source: count such statements apart). THE CARD IS WHAT COUNTS. Prove the row's statement (the work); the ties are given (YtpmldcnmnadgaaaDoorTie.lean); close each card by the builder's one call (the guide's Derived/Test/ToyasCard.lean, 'card_holds'). Laid BY PROGRAM, IN A SANDBOX (cutbox-door.mjs). By AI agents, Wed Nov 11 2026. No macro, syntax, notation, axiom, sorry.
-/
import Derived.Test.YtpmldcnmnadgaaaDoorRows
import GoSem.ClaimSeven
namespace Go.Proofs.YtpmldcnmnadgaaaDoor
namespace Rows

/-- THE TIED CARD OF 'hostlerlaw14.StatusCounts'. -/
def statusCountsCard : Claim7 := { stood := { row := statusCountsRow, standIns := [], harness := (true, "61899547c918052c7ef328cb72762ad8ed938313dc23cbd7bb9c29a27418cab1"), looks := false }, kinds := [], alts := [], laidByText := true, laidKinds := [.data], laidTests := true, laidLooks := .later }
def StatusCountsCardSaid : Prop := Claim7.holds Tryd.pinned (.plain (OpenSpec.ofChange statusCountsSpec)) statusCountsCard

/-- THE TIED CARD OF 'hostlerlaw14.StatusTable'. -/
def statusTableCard : Claim7 := { stood := { row := statusTableRow, standIns := [], harness := (true, "61899547c918052c7ef328cb72762ad8ed938313dc23cbd7bb9c29a27418cab1"), looks := false }, kinds := [], alts := [], laidByText := true, laidKinds := [.data], laidTests := true, laidLooks := .later }
def StatusTableCardSaid : Prop := Claim7.holds Tryd.pinned (.plain (OpenSpec.ofChange statusTableSpec)) statusTableCard

/-- THE TIED CARD OF 'hostlerlaw14.StatusDead'. -/
def statusDeadCard : Claim7 := { stood := { row := statusDeadRow, standIns := [], harness := (true, "61899547c918052c7ef328cb72762ad8ed938313dc23cbd7bb9c29a27418cab1"), looks := false }, kinds := [], alts := [], laidByText := true, laidKinds := [.data], laidTests := true, laidLooks := .later }
def StatusDeadCardSaid : Prop := Claim7.holds Tryd.pinned (.plain (OpenSpec.ofChange statusDeadSpec)) statusDeadCard

/-- THE TIED CARD OF 'hostlerlaw19.MachFresh'. -/
def machFreshCard : Claim7 := { stood := { row := machFreshRow, standIns := [], harness := (true, "61899547c918052c7ef328cb72762ad8ed938313dc23cbd7bb9c29a27418cab1"), looks := false }, kinds := [], alts := [], laidByText := true, laidKinds := [.data], laidTests := true, laidLooks := .later }
def MachFreshCardSaid : Prop := Claim7.holds Tryd.pinned (.plain (OpenSpec.ofChange machFreshSpec)) machFreshCard

/-- THE SECOND FORM's CARD OF 'hostlerlaw14.StatusCounts'. -/
def statusCountsUptoCard : Claim7 := { stood := { row := statusCountsUptoRow, standIns := [], harness := (true, "61899547c918052c7ef328cb72762ad8ed938313dc23cbd7bb9c29a27418cab1"), looks := false }, kinds := [], alts := [], laidByText := true, laidKinds := [.data], laidTests := true, laidLooks := .later }
def StatusCountsUptoCardSaid : Prop := Claim7.holds Tryd.pinned (.plain (OpenSpec.upto statusCountsSpec)) statusCountsUptoCard

/-- THE SECOND FORM's CARD OF 'hostlerlaw14.StatusTable'. -/
def statusTableUptoCard : Claim7 := { stood := { row := statusTableUptoRow, standIns := [], harness := (true, "61899547c918052c7ef328cb72762ad8ed938313dc23cbd7bb9c29a27418cab1"), looks := false }, kinds := [], alts := [], laidByText := true, laidKinds := [.data], laidTests := true, laidLooks := .later }
def StatusTableUptoCardSaid : Prop := Claim7.holds Tryd.pinned (.plain (OpenSpec.upto statusTableSpec)) statusTableUptoCard

/-- THE SECOND FORM's CARD OF 'hostlerlaw14.StatusDead'. -/
def statusDeadUptoCard : Claim7 := { stood := { row := statusDeadUptoRow, standIns := [], harness := (true, "61899547c918052c7ef328cb72762ad8ed938313dc23cbd7bb9c29a27418cab1"), looks := false }, kinds := [], alts := [], laidByText := true, laidKinds := [.data], laidTests := true, laidLooks := .later }
def StatusDeadUptoCardSaid : Prop := Claim7.holds Tryd.pinned (.plain (OpenSpec.upto statusDeadSpec)) statusDeadUptoCard

/-- THE SECOND FORM's CARD OF 'hostlerlaw19.MachFresh'. -/
def machFreshUptoCard : Claim7 := { stood := { row := machFreshUptoRow, standIns := [], harness := (true, "61899547c918052c7ef328cb72762ad8ed938313dc23cbd7bb9c29a27418cab1"), looks := false }, kinds := [], alts := [], laidByText := true, laidKinds := [.data], laidTests := true, laidLooks := .later }
def MachFreshUptoCardSaid : Prop := Claim7.holds Tryd.pinned (.plain (OpenSpec.upto machFreshSpec)) machFreshUptoCard
end Rows
end Go.Proofs.YtpmldcnmnadgaaaDoor
