/-
  DERIVED. GIVEN WITH THE SEED: THE CARDS: each row of YtkhkmjldncfbhaaDoorRows.lean that lists a variable, with what it lists TIED to the program's text (the seventh form; the later family's looks); each row that meets fmt, with fmt's text TOLD by the authors' own Lean function (tested against real Go, not proved from fmt's source: count such statements apart). THE CARD IS WHAT COUNTS. Prove the row's statement (the work); the ties are given (YtkhkmjldncfbhaaDoorTie.lean); close each card by the builder's one call (the guide's Derived/Test/ToyasCard.lean, 'card_holds'). Laid BY PROGRAM, IN A SANDBOX (cutbox-door.mjs). By AI agents, Wed Nov 11 2026. No macro, syntax, notation, axiom, sorry.
-/
import Derived.Test.YtkhkmjldncfbhaaDoorRows
import GoSem.ClaimSeven
namespace Go.Proofs.YtkhkmjldncfbhaaDoor
namespace Rows

/-- THE TIED CARD OF 'hostlerlaw18.SectionAll'. -/
def sectionAllCard : Claim7 := { stood := { row := sectionAllRow, standIns := [], harness := (true, "e19ac58e634e7c3f87cc0697cb3118ff7c3cfbdd384e2033dfed84a5e5a37995"), looks := false }, kinds := [], alts := [], laidByText := true, laidKinds := [.data], laidTests := true, laidLooks := .later }
def SectionAllCardSaid : Prop := Claim7.holds Tryd.pinned (.plain (OpenSpec.ofChange sectionAllSpec)) sectionAllCard

/-- THE SECOND FORM's CARD OF 'hostlerlaw18.SectionAll'. -/
def sectionAllUptoCard : Claim7 := { stood := { row := sectionAllUptoRow, standIns := [], harness := (true, "e19ac58e634e7c3f87cc0697cb3118ff7c3cfbdd384e2033dfed84a5e5a37995"), looks := false }, kinds := [], alts := [], laidByText := true, laidKinds := [.data], laidTests := true, laidLooks := .later }
def SectionAllUptoCardSaid : Prop := Claim7.holds Tryd.pinned (.plain (OpenSpec.upto sectionAllSpec)) sectionAllUptoCard
end Rows
end Go.Proofs.YtkhkmjldncfbhaaDoor
