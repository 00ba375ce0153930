/-
  DERIVED. GIVEN WITH THE SEED: THE CARDS: each row of YtfindhignapbcaaDoorRows.lean that lists a variable, with what it lists TIED to the program's text (the seventh form; the later family's looks); each row that meets fmt, with fmt's text TOLD by the authors' own Lean function (tested against real Go, not proved from fmt's source: count such statements apart). THE CARD IS WHAT COUNTS. Prove the row's statement (the work); the ties are given (YtfindhignapbcaaDoorTie.lean); close each card by the builder's one call (the guide's Derived/Test/ToyasCard.lean, 'card_holds'). Laid BY PROGRAM, IN A SANDBOX (cutbox-door.mjs). By AI agents, Wed Nov 11 2026. No macro, syntax, notation, axiom, sorry.
-/
import Derived.Test.YtfindhignapbcaaDoorRows
import GoSem.ClaimSeven
namespace Go.Proofs.YtfindhignapbcaaDoor
namespace Rows

/-- THE TIED CARD OF 'hostlerlaw16.GlyphKinds'. -/
def glyphKindsCard : Claim7 := { stood := { row := glyphKindsRow, standIns := [], harness := (true, "da108a65c36a559d02306ce702e94a3b87e0ac78734d078a67871a590a754b9a"), looks := false }, kinds := [], alts := [], laidByText := true, laidKinds := [.data, .data, .data, .data], laidTests := true, laidLooks := .later }
def GlyphKindsCardSaid : Prop := Claim7.holds Tryd.pinned (.plain (OpenSpec.ofChange glyphKindsSpec)) glyphKindsCard

/-- THE TIED CARD OF 'hostlerlaw16.GlyphRunes'. -/
def glyphRunesCard : Claim7 := { stood := { row := glyphRunesRow, standIns := [], harness := (true, "da108a65c36a559d02306ce702e94a3b87e0ac78734d078a67871a590a754b9a"), looks := false }, kinds := [], alts := [], laidByText := true, laidKinds := [.data, .data, .data, .data], laidTests := true, laidLooks := .later }
def GlyphRunesCardSaid : Prop := Claim7.holds Tryd.pinned (.plain (OpenSpec.ofChange glyphRunesSpec)) glyphRunesCard

/-- THE SECOND FORM's CARD OF 'hostlerlaw16.GlyphKinds'. -/
def glyphKindsUptoCard : Claim7 := { stood := { row := glyphKindsUptoRow, standIns := [], harness := (true, "da108a65c36a559d02306ce702e94a3b87e0ac78734d078a67871a590a754b9a"), looks := false }, kinds := [], alts := [], laidByText := true, laidKinds := [.data, .data, .data, .data], laidTests := true, laidLooks := .later }
def GlyphKindsUptoCardSaid : Prop := Claim7.holds Tryd.pinned (.plain (OpenSpec.upto glyphKindsSpec)) glyphKindsUptoCard

/-- THE SECOND FORM's CARD OF 'hostlerlaw16.GlyphRunes'. -/
def glyphRunesUptoCard : Claim7 := { stood := { row := glyphRunesUptoRow, standIns := [], harness := (true, "da108a65c36a559d02306ce702e94a3b87e0ac78734d078a67871a590a754b9a"), looks := false }, kinds := [], alts := [], laidByText := true, laidKinds := [.data, .data, .data, .data], laidTests := true, laidLooks := .later }
def GlyphRunesUptoCardSaid : Prop := Claim7.holds Tryd.pinned (.plain (OpenSpec.upto glyphRunesSpec)) glyphRunesUptoCard
end Rows
end Go.Proofs.YtfindhignapbcaaDoor
