/-
  NARROWER THAN 'FOR EVERY INPUT', by the rows' own cells (each row's printed sentence says how): ModelAnother: laid · ModelPlays: laid · ModelBounds: laid · ModelKeeps: laid.
  DERIVED. THE GIVEN ROWS OF THIS SEAT. 4 by the template 'for every input the law returns true; each argument reads behind the call as it read before'; 0 by the template 'total and deterministic' (their statements: YtgfamjbpdomjfaaDoorTotals.lean).
  GIVEN WITH THE SEED: the statements are not yours to turn. If you find one false, say at which input.
  Laid BY PROGRAM, IN A SANDBOX (cutbox-rows.mjs): the forced cells as the released guide's own fill.sh prints them over the translation 2e139983952fab12… (all of the seat's roots in one cut). By AI agents, Wed Nov 11 2026. No macro, syntax, notation, axiom, sorry.
-/
import Derived.Test.YtgfamjbpdomjfaaDoorChecked
import GoSem.Claim
import GoSem.ClaimJoined
import GoSem.ClaimMapViews
import Derived.JoinedTies
import Derived.KernelRfl
namespace Go.Proofs.YtgfamjbpdomjfaaDoor
/- THE CELL 'sum', in the pinned program and in every row, IS THE sha256 OF THE DUMP (.gsa) THAT YtgfamjbpdomjfaaDoorProg.lean LOADS. Nothing in Lean hashes anything: it is a label: what it is worth is what the hold of that sum in a sandbox is worth. -/
noncomputable def Tryd.pinned : Pinned := { name := "ytgfamjbpdomjfaadoor", sum := "2e139983952fab122eac234dc144db4010bd9f9f628eb54bd4529177cd91c9ee", checked := Tryd.checked }
namespace Rows
def none {H : Type} : Left H := { results := [], args := [] }

/- WHAT THE LISTED PACKAGE-LEVEL VARIABLES READ AS WHEN THE CALL BEGINS. Each datum BY PROGRAM (the guide's laid-datum.mjs) off the statement by which the dump's own 'gosem.cut.vars' lays the variable. In a bare row this is a premise. The card (YtgfamjbpdomjfaaDoorCards.lean) ties it to the program's text. -/
def laid_hostler_event_names {H : Type} : DataW H := .agg [.lit (.string [115, 112, 97, 119, 110]), .lit (.string [114, 101, 97, 100, 121]), .lit (.string [100, 105, 115, 112, 97, 116, 99, 104]), .lit (.string [121, 105, 101, 108, 100]), .lit (.string [98, 108, 111, 99, 107]), .lit (.string [115, 108, 101, 101, 112]), .lit (.string [119, 97, 105, 116]), .lit (.string [101, 120, 105, 116])]
def laid_hostler_event_steps {H : Type} : DataW H := .agg [.agg [.lit (.int .u64 0), .lit (.int .u64 1)], .agg [.lit (.int .u64 0), .lit (.int .u64 1)], .agg [.lit (.int .u64 1), .lit (.int .u64 2)], .agg [.lit (.int .u64 2), .lit (.int .u64 1)], .agg [.lit (.int .u64 2), .lit (.int .u64 3)], .agg [.lit (.int .u64 2), .lit (.int .u64 4)], .agg [.lit (.int .u64 2), .lit (.int .u64 5)], .agg [.lit (.int .u64 2), .lit (.int .u64 6)]]
def laid_hostler_status_steps {H : Type} : DataW H := .agg [.lit (.int .u8 2), .lit (.int .u8 4), .lit (.int .u8 122), .lit (.int .u8 2), .lit (.int .u8 2), .lit (.int .u8 2), .lit (.int .u8 0)]

/-- 'hostlerlaw17.ModelAnother': WHATEVER THE INPUT: true; the input reads as it did. -/
def modelAnotherSpec : ChangeSpec := { name := "modelAnother", fn := fun _ => fun
  | [d] => { results := [.lit (.bool true)], args := [d] }
  | _ => none }
def modelAnotherRow : OpenClaim := { program := "ytgfamjbpdomjfaadoor", sum := "2e139983952fab122eac234dc144db4010bd9f9f628eb54bd4529177cd91c9ee", func := "hostler/hostlerlaw17.ModelAnother", spec := "modelAnother", named := ["hostler/event.steps", "hostler/event.names"], apart := false, laid := [("hostler/event.names", laid_hostler_event_names), ("hostler/event.steps", laid_hostler_event_steps)] }
def ModelAnotherSaid : Prop := modelAnotherRow.holds Tryd.pinned (OpenSpec.ofChange modelAnotherSpec)

/-- ITS FALSE NEIGHBOUR: 'it returns false'. Refute it at one input. -/
def modelAnotherWrong : ChangeSpec := { name := "modelAnother", fn := fun _ => fun
  | [d] => { results := [.lit (.bool false)], args := [d] }
  | _ => none }
def ModelAnotherWrongFalsely : Prop := modelAnotherRow.holds Tryd.pinned (OpenSpec.ofChange modelAnotherWrong)

/-- 'hostlerlaw17.ModelPlays': WHATEVER THE INPUT: true; the input reads as it did. -/
def modelPlaysSpec : ChangeSpec := { name := "modelPlays", fn := fun _ => fun
  | [d1, d2, d3, d4] => { results := [.lit (.bool true)], args := [d1, d2, d3, d4] }
  | _ => none }
def modelPlaysRow : OpenClaim := { program := "ytgfamjbpdomjfaadoor", sum := "2e139983952fab122eac234dc144db4010bd9f9f628eb54bd4529177cd91c9ee", func := "hostler/hostlerlaw17.ModelPlays", spec := "modelPlays", recurses := true, named := ["hostler/event.steps", "hostler/event.names"], apart := false, laid := [("hostler/event.names", laid_hostler_event_names), ("hostler/event.steps", laid_hostler_event_steps)] }
def ModelPlaysSaid : Prop := modelPlaysRow.holds Tryd.pinned (OpenSpec.ofChange modelPlaysSpec)

/-- ITS FALSE NEIGHBOUR: 'it returns false'. Refute it at one input. -/
def modelPlaysWrong : ChangeSpec := { name := "modelPlays", fn := fun _ => fun
  | [d1, d2, d3, d4] => { results := [.lit (.bool false)], args := [d1, d2, d3, d4] }
  | _ => none }
def ModelPlaysWrongFalsely : Prop := modelPlaysRow.holds Tryd.pinned (OpenSpec.ofChange modelPlaysWrong)

/-- 'hostlerlaw17.ModelBounds': WHATEVER THE INPUT: true; the input reads as it did. -/
def modelBoundsSpec : ChangeSpec := { name := "modelBounds", fn := fun _ => fun
  | [d1, d2, d3] => { results := [.lit (.bool true)], args := [d1, d2, d3] }
  | _ => none }
def modelBoundsRow : OpenClaim := { program := "ytgfamjbpdomjfaadoor", sum := "2e139983952fab122eac234dc144db4010bd9f9f628eb54bd4529177cd91c9ee", func := "hostler/hostlerlaw17.ModelBounds", spec := "modelBounds", named := ["hostler/event.steps", "hostler/event.names"], apart := false, laid := [("hostler/event.names", laid_hostler_event_names), ("hostler/event.steps", laid_hostler_event_steps)] }
def ModelBoundsSaid : Prop := modelBoundsRow.holds Tryd.pinned (OpenSpec.ofChange modelBoundsSpec)

/-- ITS FALSE NEIGHBOUR: 'it returns false'. Refute it at one input. -/
def modelBoundsWrong : ChangeSpec := { name := "modelBounds", fn := fun _ => fun
  | [d1, d2, d3] => { results := [.lit (.bool false)], args := [d1, d2, d3] }
  | _ => none }
def ModelBoundsWrongFalsely : Prop := modelBoundsRow.holds Tryd.pinned (OpenSpec.ofChange modelBoundsWrong)

/-- 'hostlerlaw17.ModelKeeps': WHATEVER THE INPUT: true; the input reads as it did. -/
def modelKeepsSpec : ChangeSpec := { name := "modelKeeps", fn := fun _ => fun
  | [d] => { results := [.lit (.bool true)], args := [d] }
  | _ => none }
def modelKeepsRow : OpenClaim := { program := "ytgfamjbpdomjfaadoor", sum := "2e139983952fab122eac234dc144db4010bd9f9f628eb54bd4529177cd91c9ee", func := "hostler/hostlerlaw17.ModelKeeps", spec := "modelKeeps", named := ["hostler/event.steps", "hostler/event.names", "hostler/status.steps"], apart := false, laid := [("hostler/status.steps", laid_hostler_status_steps), ("hostler/event.names", laid_hostler_event_names), ("hostler/event.steps", laid_hostler_event_steps)] }
def ModelKeepsSaid : Prop := modelKeepsRow.holds Tryd.pinned (OpenSpec.ofChange modelKeepsSpec)

/-- ITS FALSE NEIGHBOUR: 'it returns false'. Refute it at one input. -/
def modelKeepsWrong : ChangeSpec := { name := "modelKeeps", fn := fun _ => fun
  | [d] => { results := [.lit (.bool false)], args := [d] }
  | _ => none }
def ModelKeepsWrongFalsely : Prop := modelKeepsRow.holds Tryd.pinned (OpenSpec.ofChange modelKeepsWrong)

/- THE SECOND FORM. 'bulk': how many values and letters a reading holds, each counted each time it is reached (what is shared counts as often as it is met; a slice's spare places count too). A statement '..UptoSaid' is the law's where the arguments, and the package variables that the reading takes, are together of bulk at most 1048576: NARROWER than '..Said'. Prove '..Said' where nothing that the law and all that it calls make is longer than what came in: it says more and counts as full. Else prove '..UptoSaid'. A law counts once. -/
mutual
def uptoBulk {H : Type} : DataW H → Nat
  | .lit (.string bytes) => bytes.length + 1
  | .lit _ => 1
  | .nil => 1
  | .ptr d => uptoBulk d + 1
  | .slice elems spare => uptoBulkAll elems + uptoBulkAll spare + 1
  | .agg parts => uptoBulkAll parts + 1
  | .iface _ d => uptoBulk d + 1
  | .map entries => uptoBulkEntries entries + 1
  | .held _ => 1
def uptoBulkAll {H : Type} : List (DataW H) → Nat
  | [] => 0
  | d :: r => uptoBulk d + uptoBulkAll r
def uptoBulkEntries {H : Type} : List (Lit × DataW H) → Nat
  | [] => 0
  | x :: r => uptoBulkEntry x + uptoBulkEntries r
def uptoBulkEntry {H : Type} : Lit × DataW H → Nat
  | (.string bytes, d) => bytes.length + uptoBulk d + 1
  | (_, d) => uptoBulk d + 1
 end
def uptoSmall : (H : Type) → List (DataW H) → Bool := fun _ ds => decide (uptoBulkAll ds ≤ 1048576)
def OpenSpec.upto (s : _root_.Go.ChangeSpec) : _root_.Go.OpenSpec := { _root_.Go.OpenSpec.ofChange s with cond := some uptoSmall }

/-- 'hostlerlaw17.ModelAnother', WHERE WHAT IT READS IS OF BULK AT MOST 1048576: true; the input reads as it did. -/
def modelAnotherUptoRow : OpenClaim := { program := "ytgfamjbpdomjfaadoor", sum := "2e139983952fab122eac234dc144db4010bd9f9f628eb54bd4529177cd91c9ee", func := "hostler/hostlerlaw17.ModelAnother", spec := "modelAnother", named := ["hostler/event.steps", "hostler/event.names"], apart := false, laid := [("hostler/event.names", laid_hostler_event_names), ("hostler/event.steps", laid_hostler_event_steps)], narrowed := true }
def ModelAnotherUptoSaid : Prop := modelAnotherUptoRow.holds Tryd.pinned (OpenSpec.upto modelAnotherSpec)

/-- 'hostlerlaw17.ModelPlays', WHERE WHAT IT READS IS OF BULK AT MOST 1048576: true; the input reads as it did. -/
def modelPlaysUptoRow : OpenClaim := { program := "ytgfamjbpdomjfaadoor", sum := "2e139983952fab122eac234dc144db4010bd9f9f628eb54bd4529177cd91c9ee", func := "hostler/hostlerlaw17.ModelPlays", spec := "modelPlays", recurses := true, named := ["hostler/event.steps", "hostler/event.names"], apart := false, laid := [("hostler/event.names", laid_hostler_event_names), ("hostler/event.steps", laid_hostler_event_steps)], narrowed := true }
def ModelPlaysUptoSaid : Prop := modelPlaysUptoRow.holds Tryd.pinned (OpenSpec.upto modelPlaysSpec)

/-- 'hostlerlaw17.ModelBounds', WHERE WHAT IT READS IS OF BULK AT MOST 1048576: true; the input reads as it did. -/
def modelBoundsUptoRow : OpenClaim := { program := "ytgfamjbpdomjfaadoor", sum := "2e139983952fab122eac234dc144db4010bd9f9f628eb54bd4529177cd91c9ee", func := "hostler/hostlerlaw17.ModelBounds", spec := "modelBounds", named := ["hostler/event.steps", "hostler/event.names"], apart := false, laid := [("hostler/event.names", laid_hostler_event_names), ("hostler/event.steps", laid_hostler_event_steps)], narrowed := true }
def ModelBoundsUptoSaid : Prop := modelBoundsUptoRow.holds Tryd.pinned (OpenSpec.upto modelBoundsSpec)

/-- 'hostlerlaw17.ModelKeeps', WHERE WHAT IT READS IS OF BULK AT MOST 1048576: true; the input reads as it did. -/
def modelKeepsUptoRow : OpenClaim := { program := "ytgfamjbpdomjfaadoor", sum := "2e139983952fab122eac234dc144db4010bd9f9f628eb54bd4529177cd91c9ee", func := "hostler/hostlerlaw17.ModelKeeps", spec := "modelKeeps", named := ["hostler/event.steps", "hostler/event.names", "hostler/status.steps"], apart := false, laid := [("hostler/status.steps", laid_hostler_status_steps), ("hostler/event.names", laid_hostler_event_names), ("hostler/event.steps", laid_hostler_event_steps)], narrowed := true }
def ModelKeepsUptoSaid : Prop := modelKeepsUptoRow.holds Tryd.pinned (OpenSpec.upto modelKeepsSpec)

end Rows
end Go.Proofs.YtgfamjbpdomjfaaDoor
