/-
  NARROWER THAN 'FOR EVERY INPUT', by the rows' own cells (each row's printed sentence says how): ModelPlays: laid.
  DERIVED. THE GIVEN ROWS OF THIS SEAT. 1 by the template 'for every input the law returns true; each argument reads behind the call as it read before'; 0 by the template 'total and deterministic' (their statements: YtkimfejhgfnjoaaDoorTotals.lean).
  GIVEN WITH THE SEED: the statements are not yours to turn. If you find one false, say at which input.
  Laid BY PROGRAM, IN A SANDBOX (cutbox-rows.mjs): the forced cells as the released guide's own fill.sh prints them over the translation 74751a63c4286f95… (all of the seat's roots in one cut). By AI agents, Wed Nov 11 2026. No macro, syntax, notation, axiom, sorry.
-/
import Derived.Test.YtkimfejhgfnjoaaDoorChecked
import GoSem.Claim
import GoSem.ClaimJoined
import GoSem.ClaimMapViews
import Derived.JoinedTies
import Derived.KernelRfl
namespace Go.Proofs.YtkimfejhgfnjoaaDoor
/- THE CELL 'sum', in the pinned program and in every row, IS THE sha256 OF THE DUMP (.gsa) THAT YtkimfejhgfnjoaaDoorProg.lean LOADS. Nothing in Lean hashes anything: it is a label: what it is worth is what the hold of that sum in a sandbox is worth. -/
noncomputable def Tryd.pinned : Pinned := { name := "ytkimfejhgfnjoaadoor", sum := "74751a63c4286f95b21eae2c2413fd6ca0af37b77eebc2ddd97f3d07c9c08d5f", checked := Tryd.checked }
namespace Rows
def none {H : Type} : Left H := { results := [], args := [] }

/- WHAT THE LISTED PACKAGE-LEVEL VARIABLES READ AS WHEN THE CALL BEGINS. Each datum BY PROGRAM (the guide's laid-datum.mjs) off the statement by which the dump's own 'gosem.cut.vars' lays the variable. In a bare row this is a premise. The card (YtkimfejhgfnjoaaDoorCards.lean) ties it to the program's text. -/
def laid_hostler_event_names {H : Type} : DataW H := .agg [.lit (.string [115, 112, 97, 119, 110]), .lit (.string [114, 101, 97, 100, 121]), .lit (.string [100, 105, 115, 112, 97, 116, 99, 104]), .lit (.string [121, 105, 101, 108, 100]), .lit (.string [98, 108, 111, 99, 107]), .lit (.string [115, 108, 101, 101, 112]), .lit (.string [119, 97, 105, 116]), .lit (.string [101, 120, 105, 116])]
def laid_hostler_event_steps {H : Type} : DataW H := .agg [.agg [.lit (.int .u64 0), .lit (.int .u64 1)], .agg [.lit (.int .u64 0), .lit (.int .u64 1)], .agg [.lit (.int .u64 1), .lit (.int .u64 2)], .agg [.lit (.int .u64 2), .lit (.int .u64 1)], .agg [.lit (.int .u64 2), .lit (.int .u64 3)], .agg [.lit (.int .u64 2), .lit (.int .u64 4)], .agg [.lit (.int .u64 2), .lit (.int .u64 5)], .agg [.lit (.int .u64 2), .lit (.int .u64 6)]]

/-- 'hostlerlaw17.ModelPlays': WHATEVER THE INPUT: true; the input reads as it did. -/
def modelPlaysSpec : ChangeSpec := { name := "modelPlays", fn := fun _ => fun
  | [d1, d2, d3, d4] => { results := [.lit (.bool true)], args := [d1, d2, d3, d4] }
  | _ => none }
def modelPlaysRow : OpenClaim := { program := "ytkimfejhgfnjoaadoor", sum := "74751a63c4286f95b21eae2c2413fd6ca0af37b77eebc2ddd97f3d07c9c08d5f", func := "hostler/hostlerlaw17.ModelPlays", spec := "modelPlays", recurses := true, named := ["hostler/event.steps", "hostler/event.names"], apart := false, laid := [("hostler/event.names", laid_hostler_event_names), ("hostler/event.steps", laid_hostler_event_steps)] }
def ModelPlaysSaid : Prop := modelPlaysRow.holds Tryd.pinned (OpenSpec.ofChange modelPlaysSpec)

/-- ITS FALSE NEIGHBOUR: 'it returns false'. Refute it at one input. -/
def modelPlaysWrong : ChangeSpec := { name := "modelPlays", fn := fun _ => fun
  | [d1, d2, d3, d4] => { results := [.lit (.bool false)], args := [d1, d2, d3, d4] }
  | _ => none }
def ModelPlaysWrongFalsely : Prop := modelPlaysRow.holds Tryd.pinned (OpenSpec.ofChange modelPlaysWrong)

/- THE SECOND FORM. 'bulk': how many values and letters a reading holds, each counted each time it is reached (what is shared counts as often as it is met; a slice's spare places count too). A statement '..UptoSaid' is the law's where the arguments, and the package variables that the reading takes, are together of bulk at most 1048576: NARROWER than '..Said'. Prove '..Said' where nothing that the law and all that it calls make is longer than what came in: it says more and counts as full. Else prove '..UptoSaid'. A law counts once. -/
mutual
def uptoBulk {H : Type} : DataW H → Nat
  | .lit (.string bytes) => bytes.length + 1
  | .lit _ => 1
  | .nil => 1
  | .ptr d => uptoBulk d + 1
  | .slice elems spare => uptoBulkAll elems + uptoBulkAll spare + 1
  | .agg parts => uptoBulkAll parts + 1
  | .iface _ d => uptoBulk d + 1
  | .map entries => uptoBulkEntries entries + 1
  | .held _ => 1
def uptoBulkAll {H : Type} : List (DataW H) → Nat
  | [] => 0
  | d :: r => uptoBulk d + uptoBulkAll r
def uptoBulkEntries {H : Type} : List (Lit × DataW H) → Nat
  | [] => 0
  | x :: r => uptoBulkEntry x + uptoBulkEntries r
def uptoBulkEntry {H : Type} : Lit × DataW H → Nat
  | (.string bytes, d) => bytes.length + uptoBulk d + 1
  | (_, d) => uptoBulk d + 1
 end
def uptoSmall : (H : Type) → List (DataW H) → Bool := fun _ ds => decide (uptoBulkAll ds ≤ 1048576)
def OpenSpec.upto (s : _root_.Go.ChangeSpec) : _root_.Go.OpenSpec := { _root_.Go.OpenSpec.ofChange s with cond := some uptoSmall }

/-- 'hostlerlaw17.ModelPlays', WHERE WHAT IT READS IS OF BULK AT MOST 1048576: true; the input reads as it did. -/
def modelPlaysUptoRow : OpenClaim := { program := "ytkimfejhgfnjoaadoor", sum := "74751a63c4286f95b21eae2c2413fd6ca0af37b77eebc2ddd97f3d07c9c08d5f", func := "hostler/hostlerlaw17.ModelPlays", spec := "modelPlays", recurses := true, named := ["hostler/event.steps", "hostler/event.names"], apart := false, laid := [("hostler/event.names", laid_hostler_event_names), ("hostler/event.steps", laid_hostler_event_steps)], narrowed := true }
def ModelPlaysUptoSaid : Prop := modelPlaysUptoRow.holds Tryd.pinned (OpenSpec.upto modelPlaysSpec)

end Rows
end Go.Proofs.YtkimfejhgfnjoaaDoor
