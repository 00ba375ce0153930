/-
  NARROWER THAN 'FOR EVERY INPUT', by the rows' own cells (each row's printed sentence says how): StatusCounts: laid · StatusTable: laid · StatusDead: laid · MachFresh: laid.
  DERIVED. THE GIVEN ROWS OF THIS SEAT. 4 by the template 'for every input the law returns true; each argument reads behind the call as it read before'; 0 by the template 'total and deterministic' (their statements: YtpmldcnmnadgaaaDoorTotals.lean).
  GIVEN WITH THE SEED: the statements are not yours to turn. If you find one false, say at which input.
  Laid BY PROGRAM, IN A SANDBOX (cutbox-rows.mjs): the forced cells as the released guide's own fill.sh prints them over the translation 1886cbeb5d0310d9… (all of the seat's roots in one cut). By AI agents, Wed Nov 11 2026. No macro, syntax, notation, axiom, sorry.
-/
import Derived.Test.YtpmldcnmnadgaaaDoorChecked
import GoSem.Claim
import GoSem.ClaimJoined
import GoSem.ClaimMapViews
import Derived.JoinedTies
import Derived.KernelRfl
namespace Go.Proofs.YtpmldcnmnadgaaaDoor
/- THE CELL 'sum', in the pinned program and in every row, IS THE sha256 OF THE DUMP (.gsa) THAT YtpmldcnmnadgaaaDoorProg.lean LOADS. Nothing in Lean hashes anything: it is a label: what it is worth is what the hold of that sum in a sandbox is worth. -/
noncomputable def Tryd.pinned : Pinned := { name := "ytpmldcnmnadgaaadoor", sum := "1886cbeb5d0310d9f412c3e31f5a48a8aa33b9d47035c4b01f784d7f54099ea7", checked := Tryd.checked }
namespace Rows
def none {H : Type} : Left H := { results := [], args := [] }

/- WHAT THE LISTED PACKAGE-LEVEL VARIABLES READ AS WHEN THE CALL BEGINS. Each datum BY PROGRAM (the guide's laid-datum.mjs) off the statement by which the dump's own 'gosem.cut.vars' lays the variable. In a bare row this is a premise. The card (YtpmldcnmnadgaaaDoorCards.lean) ties it to the program's text. -/
def laid_hostler_status_steps {H : Type} : DataW H := .agg [.lit (.int .u8 2), .lit (.int .u8 4), .lit (.int .u8 122), .lit (.int .u8 2), .lit (.int .u8 2), .lit (.int .u8 2), .lit (.int .u8 0)]
def laid_hostler_mach_places {H : Type} : DataW H := .agg [.agg [.lit (.string [101, 120, 101, 99]), .lit (.int .i64 0)], .agg [.lit (.string [115, 99, 104, 101, 100]), .lit (.int .i64 0)], .agg [.lit (.string [111, 110, 101]), .lit (.int .i64 1)], .agg [.lit (.string [108, 111, 99, 97, 108]), .lit (.int .i64 2)], .agg [.lit (.string [103, 108, 111, 98, 97, 108]), .lit (.int .i64 1)], .agg [.lit (.string [115, 112, 105, 110, 117, 112]), .lit (.int .i64 0)], .agg [.lit (.string [115, 116, 101, 97, 108]), .lit (.int .i64 3)], .agg [.lit (.string [114, 101, 108, 101, 97, 115, 101]), .lit (.int .i64 1)], .agg [.lit (.string [100, 114, 111, 112]), .lit (.int .i64 0)], .agg [.lit (.string [108, 111, 111, 107]), .lit (.int .i64 4)], .agg [.lit (.string [108, 111, 111, 107, 103, 108, 111, 98, 97, 108]), .lit (.int .i64 1)], .agg [.lit (.string [114, 101, 116, 97, 107, 101]), .lit (.int .i64 1)], .agg [.lit (.string [115, 112, 105, 110, 98, 97, 99, 107]), .lit (.int .i64 0)], .agg [.lit (.string [115, 116, 111, 112]), .lit (.int .i64 1)], .agg [.lit (.string [99, 104, 101, 99, 107]), .lit (.int .i64 5)], .agg [.lit (.string [117, 110, 112, 111, 108, 108]), .lit (.int .i64 1)], .agg [.lit (.string [115, 108, 101, 101, 112]), .lit (.int .i64 0)], .agg [.lit (.string [112, 117, 116, 114, 101, 115, 116]), .lit (.int .i64 2)], .agg [.lit (.string [112, 117, 116, 111, 118, 101, 114]), .lit (.int .i64 1)], .agg [.lit (.string [117, 110, 115, 112, 105, 110]), .lit (.int .i64 0)], .agg [.lit (.string [100, 105, 115, 112, 97, 116, 99, 104]), .lit (.int .i64 0)], .agg [.lit (.string [108, 111, 97, 100]), .lit (.int .i64 0)], .agg [.lit (.string [99, 108, 97, 105, 109]), .lit (.int .i64 0)], .agg [.lit (.string [102, 105, 110, 100]), .lit (.int .i64 1)], .agg [.lit (.string [119, 97, 107, 101]), .lit (.int .i64 0)], .agg [.lit (.string [100, 101, 108, 105, 118, 101, 114]), .lit (.int .i64 5)], .agg [.lit (.string [109, 97, 114, 107]), .lit (.int .i64 0)], .agg [.lit (.string [112, 117, 116, 111, 110, 101]), .lit (.int .i64 1)], .agg [.lit (.string [112, 117, 116, 110, 101, 120, 116]), .lit (.int .i64 2)], .agg [.lit (.string [112, 97, 114, 107]), .lit (.int .i64 5)], .agg [.lit (.string [97, 119, 97, 105, 116]), .lit (.int .i64 5)]]

/-- 'hostlerlaw14.StatusCounts': WHATEVER THE INPUT: true; the input reads as it did. -/
def statusCountsSpec : ChangeSpec := { name := "statusCounts", fn := fun _ => fun
  | [d1, d2] => { results := [.lit (.bool true)], args := [d1, d2] }
  | _ => none }
def statusCountsRow : OpenClaim := { program := "ytpmldcnmnadgaaadoor", sum := "1886cbeb5d0310d9f412c3e31f5a48a8aa33b9d47035c4b01f784d7f54099ea7", func := "hostler/hostlerlaw14.StatusCounts", spec := "statusCounts", named := ["hostler/status.steps"], apart := false, laid := [("hostler/status.steps", laid_hostler_status_steps)] }
def StatusCountsSaid : Prop := statusCountsRow.holds Tryd.pinned (OpenSpec.ofChange statusCountsSpec)

/-- ITS FALSE NEIGHBOUR: 'it returns false'. Refute it at one input. -/
def statusCountsWrong : ChangeSpec := { name := "statusCounts", fn := fun _ => fun
  | [d1, d2] => { results := [.lit (.bool false)], args := [d1, d2] }
  | _ => none }
def StatusCountsWrongFalsely : Prop := statusCountsRow.holds Tryd.pinned (OpenSpec.ofChange statusCountsWrong)

/-- 'hostlerlaw14.StatusTable': WHATEVER THE INPUT: true; the input reads as it did. -/
def statusTableSpec : ChangeSpec := { name := "statusTable", fn := fun _ => fun
  | [d1, d2] => { results := [.lit (.bool true)], args := [d1, d2] }
  | _ => none }
def statusTableRow : OpenClaim := { program := "ytpmldcnmnadgaaadoor", sum := "1886cbeb5d0310d9f412c3e31f5a48a8aa33b9d47035c4b01f784d7f54099ea7", func := "hostler/hostlerlaw14.StatusTable", spec := "statusTable", named := ["hostler/status.steps"], apart := false, laid := [("hostler/status.steps", laid_hostler_status_steps)] }
def StatusTableSaid : Prop := statusTableRow.holds Tryd.pinned (OpenSpec.ofChange statusTableSpec)

/-- ITS FALSE NEIGHBOUR: 'it returns false'. Refute it at one input. -/
def statusTableWrong : ChangeSpec := { name := "statusTable", fn := fun _ => fun
  | [d1, d2] => { results := [.lit (.bool false)], args := [d1, d2] }
  | _ => none }
def StatusTableWrongFalsely : Prop := statusTableRow.holds Tryd.pinned (OpenSpec.ofChange statusTableWrong)

/-- 'hostlerlaw14.StatusDead': WHATEVER THE INPUT: true; the input reads as it did. -/
def statusDeadSpec : ChangeSpec := { name := "statusDead", fn := fun _ => fun
  | [d] => { results := [.lit (.bool true)], args := [d] }
  | _ => none }
def statusDeadRow : OpenClaim := { program := "ytpmldcnmnadgaaadoor", sum := "1886cbeb5d0310d9f412c3e31f5a48a8aa33b9d47035c4b01f784d7f54099ea7", func := "hostler/hostlerlaw14.StatusDead", spec := "statusDead", named := ["hostler/status.steps"], apart := false, laid := [("hostler/status.steps", laid_hostler_status_steps)] }
def StatusDeadSaid : Prop := statusDeadRow.holds Tryd.pinned (OpenSpec.ofChange statusDeadSpec)

/-- ITS FALSE NEIGHBOUR: 'it returns false'. Refute it at one input. -/
def statusDeadWrong : ChangeSpec := { name := "statusDead", fn := fun _ => fun
  | [d] => { results := [.lit (.bool false)], args := [d] }
  | _ => none }
def StatusDeadWrongFalsely : Prop := statusDeadRow.holds Tryd.pinned (OpenSpec.ofChange statusDeadWrong)

/-- 'hostlerlaw19.MachFresh': WHATEVER THE INPUT: true; the input reads as it did. -/
def machFreshSpec : ChangeSpec := { name := "machFresh", fn := fun _ => fun
  | [d1, d2] => { results := [.lit (.bool true)], args := [d1, d2] }
  | _ => none }
def machFreshRow : OpenClaim := { program := "ytpmldcnmnadgaaadoor", sum := "1886cbeb5d0310d9f412c3e31f5a48a8aa33b9d47035c4b01f784d7f54099ea7", func := "hostler/hostlerlaw19.MachFresh", spec := "machFresh", named := ["hostler/mach.places"], apart := false, laid := [("hostler/mach.places", laid_hostler_mach_places)] }
def MachFreshSaid : Prop := machFreshRow.holds Tryd.pinned (OpenSpec.ofChange machFreshSpec)

/-- ITS FALSE NEIGHBOUR: 'it returns false'. Refute it at one input. -/
def machFreshWrong : ChangeSpec := { name := "machFresh", fn := fun _ => fun
  | [d1, d2] => { results := [.lit (.bool false)], args := [d1, d2] }
  | _ => none }
def MachFreshWrongFalsely : Prop := machFreshRow.holds Tryd.pinned (OpenSpec.ofChange machFreshWrong)

/- THE SECOND FORM. 'bulk': how many values and letters a reading holds, each counted each time it is reached (what is shared counts as often as it is met; a slice's spare places count too). A statement '..UptoSaid' is the law's where the arguments, and the package variables that the reading takes, are together of bulk at most 1048576: NARROWER than '..Said'. Prove '..Said' where nothing that the law and all that it calls make is longer than what came in: it says more and counts as full. Else prove '..UptoSaid'. A law counts once. -/
mutual
def uptoBulk {H : Type} : DataW H → Nat
  | .lit (.string bytes) => bytes.length + 1
  | .lit _ => 1
  | .nil => 1
  | .ptr d => uptoBulk d + 1
  | .slice elems spare => uptoBulkAll elems + uptoBulkAll spare + 1
  | .agg parts => uptoBulkAll parts + 1
  | .iface _ d => uptoBulk d + 1
  | .map entries => uptoBulkEntries entries + 1
  | .held _ => 1
def uptoBulkAll {H : Type} : List (DataW H) → Nat
  | [] => 0
  | d :: r => uptoBulk d + uptoBulkAll r
def uptoBulkEntries {H : Type} : List (Lit × DataW H) → Nat
  | [] => 0
  | x :: r => uptoBulkEntry x + uptoBulkEntries r
def uptoBulkEntry {H : Type} : Lit × DataW H → Nat
  | (.string bytes, d) => bytes.length + uptoBulk d + 1
  | (_, d) => uptoBulk d + 1
 end
def uptoSmall : (H : Type) → List (DataW H) → Bool := fun _ ds => decide (uptoBulkAll ds ≤ 1048576)
def OpenSpec.upto (s : _root_.Go.ChangeSpec) : _root_.Go.OpenSpec := { _root_.Go.OpenSpec.ofChange s with cond := some uptoSmall }

/-- 'hostlerlaw14.StatusCounts', WHERE WHAT IT READS IS OF BULK AT MOST 1048576: true; the input reads as it did. -/
def statusCountsUptoRow : OpenClaim := { program := "ytpmldcnmnadgaaadoor", sum := "1886cbeb5d0310d9f412c3e31f5a48a8aa33b9d47035c4b01f784d7f54099ea7", func := "hostler/hostlerlaw14.StatusCounts", spec := "statusCounts", named := ["hostler/status.steps"], apart := false, laid := [("hostler/status.steps", laid_hostler_status_steps)], narrowed := true }
def StatusCountsUptoSaid : Prop := statusCountsUptoRow.holds Tryd.pinned (OpenSpec.upto statusCountsSpec)

/-- 'hostlerlaw14.StatusTable', WHERE WHAT IT READS IS OF BULK AT MOST 1048576: true; the input reads as it did. -/
def statusTableUptoRow : OpenClaim := { program := "ytpmldcnmnadgaaadoor", sum := "1886cbeb5d0310d9f412c3e31f5a48a8aa33b9d47035c4b01f784d7f54099ea7", func := "hostler/hostlerlaw14.StatusTable", spec := "statusTable", named := ["hostler/status.steps"], apart := false, laid := [("hostler/status.steps", laid_hostler_status_steps)], narrowed := true }
def StatusTableUptoSaid : Prop := statusTableUptoRow.holds Tryd.pinned (OpenSpec.upto statusTableSpec)

/-- 'hostlerlaw14.StatusDead', WHERE WHAT IT READS IS OF BULK AT MOST 1048576: true; the input reads as it did. -/
def statusDeadUptoRow : OpenClaim := { program := "ytpmldcnmnadgaaadoor", sum := "1886cbeb5d0310d9f412c3e31f5a48a8aa33b9d47035c4b01f784d7f54099ea7", func := "hostler/hostlerlaw14.StatusDead", spec := "statusDead", named := ["hostler/status.steps"], apart := false, laid := [("hostler/status.steps", laid_hostler_status_steps)], narrowed := true }
def StatusDeadUptoSaid : Prop := statusDeadUptoRow.holds Tryd.pinned (OpenSpec.upto statusDeadSpec)

/-- 'hostlerlaw19.MachFresh', WHERE WHAT IT READS IS OF BULK AT MOST 1048576: true; the input reads as it did. -/
def machFreshUptoRow : OpenClaim := { program := "ytpmldcnmnadgaaadoor", sum := "1886cbeb5d0310d9f412c3e31f5a48a8aa33b9d47035c4b01f784d7f54099ea7", func := "hostler/hostlerlaw19.MachFresh", spec := "machFresh", named := ["hostler/mach.places"], apart := false, laid := [("hostler/mach.places", laid_hostler_mach_places)], narrowed := true }
def MachFreshUptoSaid : Prop := machFreshUptoRow.holds Tryd.pinned (OpenSpec.upto machFreshSpec)

end Rows
end Go.Proofs.YtpmldcnmnadgaaaDoor
