/-
  NARROWER THAN 'FOR EVERY INPUT', by the rows' own cells (each row's printed sentence says how): MaskDrains: laid · MaskWhole: laid · IdleRows: laid · IdlePlays: laid · IdleOnce: laid.
  DERIVED. THE GIVEN ROWS OF THIS SEAT. 5 by the template 'for every input the law returns true; each argument reads behind the call as it read before'; 0 by the template 'total and deterministic' (their statements: YtcbdmofdbmimfaaDoorTotals.lean).
  GIVEN WITH THE SEED: the statements are not yours to turn. If you find one false, say at which input.
  Laid BY PROGRAM, IN A SANDBOX (cutbox-rows.mjs): the forced cells as the released guide's own fill.sh prints them over the translation 40694085a2d2d579… (all of the seat's roots in one cut). By AI agents, Wed Nov 11 2026. No macro, syntax, notation, axiom, sorry.
-/
import Derived.Test.YtcbdmofdbmimfaaDoorChecked
import GoSem.Claim
import GoSem.ClaimJoined
import GoSem.ClaimMapViews
import Derived.JoinedTies
import Derived.KernelRfl
namespace Go.Proofs.YtcbdmofdbmimfaaDoor
/- THE CELL 'sum', in the pinned program and in every row, IS THE sha256 OF THE DUMP (.gsa) THAT YtcbdmofdbmimfaaDoorProg.lean LOADS. Nothing in Lean hashes anything: it is a label: what it is worth is what the hold of that sum in a sandbox is worth. -/
noncomputable def Tryd.pinned : Pinned := { name := "ytcbdmofdbmimfaadoor", sum := "40694085a2d2d5793702d29ccd9a27726330b4689a4c30bb4838047bdf214802", checked := Tryd.checked }
namespace Rows
def none {H : Type} : Left H := { results := [], args := [] }

/- WHAT THE LISTED PACKAGE-LEVEL VARIABLES READ AS WHEN THE CALL BEGINS. Each datum BY PROGRAM (the guide's laid-datum.mjs) off the statement by which the dump's own 'gosem.cut.vars' lays the variable. In a bare row this is a premise. The card (YtcbdmofdbmimfaaDoorCards.lean) ties it to the program's text. -/
def laid_math_bits_deBruijn64tab {H : Type} : DataW H := .agg [.lit (.int .u8 0), .lit (.int .u8 1), .lit (.int .u8 56), .lit (.int .u8 2), .lit (.int .u8 57), .lit (.int .u8 49), .lit (.int .u8 28), .lit (.int .u8 3), .lit (.int .u8 61), .lit (.int .u8 58), .lit (.int .u8 42), .lit (.int .u8 50), .lit (.int .u8 38), .lit (.int .u8 29), .lit (.int .u8 17), .lit (.int .u8 4), .lit (.int .u8 62), .lit (.int .u8 47), .lit (.int .u8 59), .lit (.int .u8 36), .lit (.int .u8 45), .lit (.int .u8 43), .lit (.int .u8 51), .lit (.int .u8 22), .lit (.int .u8 53), .lit (.int .u8 39), .lit (.int .u8 33), .lit (.int .u8 30), .lit (.int .u8 24), .lit (.int .u8 18), .lit (.int .u8 12), .lit (.int .u8 5), .lit (.int .u8 63), .lit (.int .u8 55), .lit (.int .u8 48), .lit (.int .u8 27), .lit (.int .u8 60), .lit (.int .u8 41), .lit (.int .u8 37), .lit (.int .u8 16), .lit (.int .u8 46), .lit (.int .u8 35), .lit (.int .u8 44), .lit (.int .u8 21), .lit (.int .u8 52), .lit (.int .u8 32), .lit (.int .u8 23), .lit (.int .u8 11), .lit (.int .u8 54), .lit (.int .u8 26), .lit (.int .u8 40), .lit (.int .u8 15), .lit (.int .u8 34), .lit (.int .u8 20), .lit (.int .u8 31), .lit (.int .u8 10), .lit (.int .u8 25), .lit (.int .u8 14), .lit (.int .u8 19), .lit (.int .u8 9), .lit (.int .u8 13), .lit (.int .u8 8), .lit (.int .u8 7), .lit (.int .u8 6)]

/-- 'hostlerlaw02.MaskDrains': WHATEVER THE INPUT: true; the input reads as it did. -/
def maskDrainsSpec : ChangeSpec := { name := "maskDrains", fn := fun _ => fun
  | [d] => { results := [.lit (.bool true)], args := [d] }
  | _ => none }
def maskDrainsRow : OpenClaim := { program := "ytcbdmofdbmimfaadoor", sum := "40694085a2d2d5793702d29ccd9a27726330b4689a4c30bb4838047bdf214802", func := "hostler/hostlerlaw02.MaskDrains", spec := "maskDrains", named := ["math/bits.deBruijn64tab"], apart := false, laid := [("math/bits.deBruijn64tab", laid_math_bits_deBruijn64tab)] }
def MaskDrainsSaid : Prop := maskDrainsRow.holds Tryd.pinned (OpenSpec.ofChange maskDrainsSpec)

/-- ITS FALSE NEIGHBOUR: 'it returns false'. Refute it at one input. -/
def maskDrainsWrong : ChangeSpec := { name := "maskDrains", fn := fun _ => fun
  | [d] => { results := [.lit (.bool false)], args := [d] }
  | _ => none }
def MaskDrainsWrongFalsely : Prop := maskDrainsRow.holds Tryd.pinned (OpenSpec.ofChange maskDrainsWrong)

/-- 'hostlerlaw02.MaskWhole': WHATEVER THE INPUT: true; the input reads as it did. -/
def maskWholeSpec : ChangeSpec := { name := "maskWhole", fn := fun _ => fun
  | [d1, d2, d3] => { results := [.lit (.bool true)], args := [d1, d2, d3] }
  | _ => none }
def maskWholeRow : OpenClaim := { program := "ytcbdmofdbmimfaadoor", sum := "40694085a2d2d5793702d29ccd9a27726330b4689a4c30bb4838047bdf214802", func := "hostler/hostlerlaw02.MaskWhole", spec := "maskWhole", named := ["math/bits.deBruijn64tab"], apart := false, laid := [("math/bits.deBruijn64tab", laid_math_bits_deBruijn64tab)] }
def MaskWholeSaid : Prop := maskWholeRow.holds Tryd.pinned (OpenSpec.ofChange maskWholeSpec)

/-- ITS FALSE NEIGHBOUR: 'it returns false'. Refute it at one input. -/
def maskWholeWrong : ChangeSpec := { name := "maskWhole", fn := fun _ => fun
  | [d1, d2, d3] => { results := [.lit (.bool false)], args := [d1, d2, d3] }
  | _ => none }
def MaskWholeWrongFalsely : Prop := maskWholeRow.holds Tryd.pinned (OpenSpec.ofChange maskWholeWrong)

/-- 'hostlerlaw13.IdleRows': WHATEVER THE INPUT: true; the input reads as it did. -/
def idleRowsSpec : ChangeSpec := { name := "idleRows", fn := fun _ => fun
  | [d] => { results := [.lit (.bool true)], args := [d] }
  | _ => none }
def idleRowsRow : OpenClaim := { program := "ytcbdmofdbmimfaadoor", sum := "40694085a2d2d5793702d29ccd9a27726330b4689a4c30bb4838047bdf214802", func := "hostler/hostlerlaw13.IdleRows", spec := "idleRows", named := ["math/bits.deBruijn64tab"], apart := false, laid := [("math/bits.deBruijn64tab", laid_math_bits_deBruijn64tab)] }
def IdleRowsSaid : Prop := idleRowsRow.holds Tryd.pinned (OpenSpec.ofChange idleRowsSpec)

/-- ITS FALSE NEIGHBOUR: 'it returns false'. Refute it at one input. -/
def idleRowsWrong : ChangeSpec := { name := "idleRows", fn := fun _ => fun
  | [d] => { results := [.lit (.bool false)], args := [d] }
  | _ => none }
def IdleRowsWrongFalsely : Prop := idleRowsRow.holds Tryd.pinned (OpenSpec.ofChange idleRowsWrong)

/-- 'hostlerlaw13.IdlePlays': WHATEVER THE INPUT: true; the input reads as it did. -/
def idlePlaysSpec : ChangeSpec := { name := "idlePlays", fn := fun _ => fun
  | [d1, d2, d3] => { results := [.lit (.bool true)], args := [d1, d2, d3] }
  | _ => none }
def idlePlaysRow : OpenClaim := { program := "ytcbdmofdbmimfaadoor", sum := "40694085a2d2d5793702d29ccd9a27726330b4689a4c30bb4838047bdf214802", func := "hostler/hostlerlaw13.IdlePlays", spec := "idlePlays", named := ["math/bits.deBruijn64tab"], apart := false, laid := [("math/bits.deBruijn64tab", laid_math_bits_deBruijn64tab)] }
def IdlePlaysSaid : Prop := idlePlaysRow.holds Tryd.pinned (OpenSpec.ofChange idlePlaysSpec)

/-- ITS FALSE NEIGHBOUR: 'it returns false'. Refute it at one input. -/
def idlePlaysWrong : ChangeSpec := { name := "idlePlays", fn := fun _ => fun
  | [d1, d2, d3] => { results := [.lit (.bool false)], args := [d1, d2, d3] }
  | _ => none }
def IdlePlaysWrongFalsely : Prop := idlePlaysRow.holds Tryd.pinned (OpenSpec.ofChange idlePlaysWrong)

/-- 'hostlerlaw13.IdleOnce': WHATEVER THE INPUT: true; the input reads as it did. -/
def idleOnceSpec : ChangeSpec := { name := "idleOnce", fn := fun _ => fun
  | [d] => { results := [.lit (.bool true)], args := [d] }
  | _ => none }
def idleOnceRow : OpenClaim := { program := "ytcbdmofdbmimfaadoor", sum := "40694085a2d2d5793702d29ccd9a27726330b4689a4c30bb4838047bdf214802", func := "hostler/hostlerlaw13.IdleOnce", spec := "idleOnce", named := ["math/bits.deBruijn64tab"], apart := false, laid := [("math/bits.deBruijn64tab", laid_math_bits_deBruijn64tab)] }
def IdleOnceSaid : Prop := idleOnceRow.holds Tryd.pinned (OpenSpec.ofChange idleOnceSpec)

/-- ITS FALSE NEIGHBOUR: 'it returns false'. Refute it at one input. -/
def idleOnceWrong : ChangeSpec := { name := "idleOnce", fn := fun _ => fun
  | [d] => { results := [.lit (.bool false)], args := [d] }
  | _ => none }
def IdleOnceWrongFalsely : Prop := idleOnceRow.holds Tryd.pinned (OpenSpec.ofChange idleOnceWrong)

/- THE SECOND FORM. 'bulk': how many values and letters a reading holds, each counted each time it is reached (what is shared counts as often as it is met; a slice's spare places count too). A statement '..UptoSaid' is the law's where the arguments, and the package variables that the reading takes, are together of bulk at most 1048576: NARROWER than '..Said'. Prove '..Said' where nothing that the law and all that it calls make is longer than what came in: it says more and counts as full. Else prove '..UptoSaid'. A law counts once. -/
mutual
def uptoBulk {H : Type} : DataW H → Nat
  | .lit (.string bytes) => bytes.length + 1
  | .lit _ => 1
  | .nil => 1
  | .ptr d => uptoBulk d + 1
  | .slice elems spare => uptoBulkAll elems + uptoBulkAll spare + 1
  | .agg parts => uptoBulkAll parts + 1
  | .iface _ d => uptoBulk d + 1
  | .map entries => uptoBulkEntries entries + 1
  | .held _ => 1
def uptoBulkAll {H : Type} : List (DataW H) → Nat
  | [] => 0
  | d :: r => uptoBulk d + uptoBulkAll r
def uptoBulkEntries {H : Type} : List (Lit × DataW H) → Nat
  | [] => 0
  | x :: r => uptoBulkEntry x + uptoBulkEntries r
def uptoBulkEntry {H : Type} : Lit × DataW H → Nat
  | (.string bytes, d) => bytes.length + uptoBulk d + 1
  | (_, d) => uptoBulk d + 1
 end
def uptoSmall : (H : Type) → List (DataW H) → Bool := fun _ ds => decide (uptoBulkAll ds ≤ 1048576)
def OpenSpec.upto (s : _root_.Go.ChangeSpec) : _root_.Go.OpenSpec := { _root_.Go.OpenSpec.ofChange s with cond := some uptoSmall }

/-- 'hostlerlaw02.MaskDrains', WHERE WHAT IT READS IS OF BULK AT MOST 1048576: true; the input reads as it did. -/
def maskDrainsUptoRow : OpenClaim := { program := "ytcbdmofdbmimfaadoor", sum := "40694085a2d2d5793702d29ccd9a27726330b4689a4c30bb4838047bdf214802", func := "hostler/hostlerlaw02.MaskDrains", spec := "maskDrains", named := ["math/bits.deBruijn64tab"], apart := false, laid := [("math/bits.deBruijn64tab", laid_math_bits_deBruijn64tab)], narrowed := true }
def MaskDrainsUptoSaid : Prop := maskDrainsUptoRow.holds Tryd.pinned (OpenSpec.upto maskDrainsSpec)

/-- 'hostlerlaw02.MaskWhole', WHERE WHAT IT READS IS OF BULK AT MOST 1048576: true; the input reads as it did. -/
def maskWholeUptoRow : OpenClaim := { program := "ytcbdmofdbmimfaadoor", sum := "40694085a2d2d5793702d29ccd9a27726330b4689a4c30bb4838047bdf214802", func := "hostler/hostlerlaw02.MaskWhole", spec := "maskWhole", named := ["math/bits.deBruijn64tab"], apart := false, laid := [("math/bits.deBruijn64tab", laid_math_bits_deBruijn64tab)], narrowed := true }
def MaskWholeUptoSaid : Prop := maskWholeUptoRow.holds Tryd.pinned (OpenSpec.upto maskWholeSpec)

/-- 'hostlerlaw13.IdleRows', WHERE WHAT IT READS IS OF BULK AT MOST 1048576: true; the input reads as it did. -/
def idleRowsUptoRow : OpenClaim := { program := "ytcbdmofdbmimfaadoor", sum := "40694085a2d2d5793702d29ccd9a27726330b4689a4c30bb4838047bdf214802", func := "hostler/hostlerlaw13.IdleRows", spec := "idleRows", named := ["math/bits.deBruijn64tab"], apart := false, laid := [("math/bits.deBruijn64tab", laid_math_bits_deBruijn64tab)], narrowed := true }
def IdleRowsUptoSaid : Prop := idleRowsUptoRow.holds Tryd.pinned (OpenSpec.upto idleRowsSpec)

/-- 'hostlerlaw13.IdlePlays', WHERE WHAT IT READS IS OF BULK AT MOST 1048576: true; the input reads as it did. -/
def idlePlaysUptoRow : OpenClaim := { program := "ytcbdmofdbmimfaadoor", sum := "40694085a2d2d5793702d29ccd9a27726330b4689a4c30bb4838047bdf214802", func := "hostler/hostlerlaw13.IdlePlays", spec := "idlePlays", named := ["math/bits.deBruijn64tab"], apart := false, laid := [("math/bits.deBruijn64tab", laid_math_bits_deBruijn64tab)], narrowed := true }
def IdlePlaysUptoSaid : Prop := idlePlaysUptoRow.holds Tryd.pinned (OpenSpec.upto idlePlaysSpec)

/-- 'hostlerlaw13.IdleOnce', WHERE WHAT IT READS IS OF BULK AT MOST 1048576: true; the input reads as it did. -/
def idleOnceUptoRow : OpenClaim := { program := "ytcbdmofdbmimfaadoor", sum := "40694085a2d2d5793702d29ccd9a27726330b4689a4c30bb4838047bdf214802", func := "hostler/hostlerlaw13.IdleOnce", spec := "idleOnce", named := ["math/bits.deBruijn64tab"], apart := false, laid := [("math/bits.deBruijn64tab", laid_math_bits_deBruijn64tab)], narrowed := true }
def IdleOnceUptoSaid : Prop := idleOnceUptoRow.holds Tryd.pinned (OpenSpec.upto idleOnceSpec)

end Rows
end Go.Proofs.YtcbdmofdbmimfaaDoor
