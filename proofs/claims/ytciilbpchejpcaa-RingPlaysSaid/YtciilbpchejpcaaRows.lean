/-
  No cell of these rows narrows 'for every input' (looked for: loops, veiled, ifaces, maps, wideKeys, modest, calm, conditions, laid).
  DERIVED. THE GIVEN ROWS OF THIS SEAT. 18 by the template 'for every input the law returns true; each argument reads behind the call as it read before'; 0 by the template 'total and deterministic' (their statements: YtciilbpchejpcaaTotals.lean).
  GIVEN WITH THE SEED: the statements are not yours to turn. If you find one false, say at which input.
  Laid BY PROGRAM, IN A SANDBOX (cutbox-rows.mjs): the forced cells as the released guide's own fill.sh prints them over the translation ff023f9649d31904… (all of the seat's roots in one cut). By AI agents, Wed Nov 11 2026. No macro, syntax, notation, axiom, sorry.
-/
import Derived.Test.YtciilbpchejpcaaChecked
import GoSem.Claim
import GoSem.ClaimJoined
import GoSem.ClaimMapViews
import Derived.JoinedTies
import Derived.KernelRfl
namespace Go.Proofs.Ytciilbpchejpcaa
/- THE CELL 'sum', in the pinned program and in every row, IS THE sha256 OF THE DUMP (.gsa) THAT YtciilbpchejpcaaProg.lean LOADS. Nothing in Lean hashes anything: it is a label: what it is worth is what the hold of that sum in a sandbox is worth. -/
noncomputable def Try.pinned : Pinned := { name := "ytciilbpchejpcaa", sum := "ff023f9649d31904f88d57e5feb7f3aae53e6292b23db94a8779157d17f58587", checked := Try.checked }
namespace Rows
def none {H : Type} : Left H := { results := [], args := [] }

/-- 'hostlerlaw05.BatchFronts': WHATEVER THE INPUT: true; the input reads as it did. -/
def batchFrontsSpec : ChangeSpec := { name := "batchFronts", fn := fun _ => fun
  | [d1, d2] => { results := [.lit (.bool true)], args := [d1, d2] }
  | _ => none }
def batchFrontsRow : OpenClaim := { program := "ytciilbpchejpcaa", sum := "ff023f9649d31904f88d57e5feb7f3aae53e6292b23db94a8779157d17f58587", func := "hostler/hostlerlaw05.BatchFronts", spec := "batchFronts", apart := false }
def BatchFrontsSaid : Prop := batchFrontsRow.holds Try.pinned (OpenSpec.ofChange batchFrontsSpec)

/-- ITS FALSE NEIGHBOUR: 'it returns false'. Refute it at one input. -/
def batchFrontsWrong : ChangeSpec := { name := "batchFronts", fn := fun _ => fun
  | [d1, d2] => { results := [.lit (.bool false)], args := [d1, d2] }
  | _ => none }
def BatchFrontsWrongFalsely : Prop := batchFrontsRow.holds Try.pinned (OpenSpec.ofChange batchFrontsWrong)

/-- 'hostlerlaw05.BatchPlays': WHATEVER THE INPUT: true; the input reads as it did. -/
def batchPlaysSpec : ChangeSpec := { name := "batchPlays", fn := fun _ => fun
  | [d1, d2] => { results := [.lit (.bool true)], args := [d1, d2] }
  | _ => none }
def batchPlaysRow : OpenClaim := { program := "ytciilbpchejpcaa", sum := "ff023f9649d31904f88d57e5feb7f3aae53e6292b23db94a8779157d17f58587", func := "hostler/hostlerlaw05.BatchPlays", spec := "batchPlays", apart := false }
def BatchPlaysSaid : Prop := batchPlaysRow.holds Try.pinned (OpenSpec.ofChange batchPlaysSpec)

/-- ITS FALSE NEIGHBOUR: 'it returns false'. Refute it at one input. -/
def batchPlaysWrong : ChangeSpec := { name := "batchPlays", fn := fun _ => fun
  | [d1, d2] => { results := [.lit (.bool false)], args := [d1, d2] }
  | _ => none }
def BatchPlaysWrongFalsely : Prop := batchPlaysRow.holds Try.pinned (OpenSpec.ofChange batchPlaysWrong)

/-- 'hostlerlaw05.BatchOrder': WHATEVER THE INPUT: true; the input reads as it did. -/
def batchOrderSpec : ChangeSpec := { name := "batchOrder", fn := fun _ => fun
  | [d] => { results := [.lit (.bool true)], args := [d] }
  | _ => none }
def batchOrderRow : OpenClaim := { program := "ytciilbpchejpcaa", sum := "ff023f9649d31904f88d57e5feb7f3aae53e6292b23db94a8779157d17f58587", func := "hostler/hostlerlaw05.BatchOrder", spec := "batchOrder", apart := false }
def BatchOrderSaid : Prop := batchOrderRow.holds Try.pinned (OpenSpec.ofChange batchOrderSpec)

/-- ITS FALSE NEIGHBOUR: 'it returns false'. Refute it at one input. -/
def batchOrderWrong : ChangeSpec := { name := "batchOrder", fn := fun _ => fun
  | [d] => { results := [.lit (.bool false)], args := [d] }
  | _ => none }
def BatchOrderWrongFalsely : Prop := batchOrderRow.holds Try.pinned (OpenSpec.ofChange batchOrderWrong)

/-- 'hostlerlaw05.BatchHalves': WHATEVER THE INPUT: true; the input reads as it did. -/
def batchHalvesSpec : ChangeSpec := { name := "batchHalves", fn := fun _ => fun
  | [d] => { results := [.lit (.bool true)], args := [d] }
  | _ => none }
def batchHalvesRow : OpenClaim := { program := "ytciilbpchejpcaa", sum := "ff023f9649d31904f88d57e5feb7f3aae53e6292b23db94a8779157d17f58587", func := "hostler/hostlerlaw05.BatchHalves", spec := "batchHalves", apart := false }
def BatchHalvesSaid : Prop := batchHalvesRow.holds Try.pinned (OpenSpec.ofChange batchHalvesSpec)

/-- ITS FALSE NEIGHBOUR: 'it returns false'. Refute it at one input. -/
def batchHalvesWrong : ChangeSpec := { name := "batchHalves", fn := fun _ => fun
  | [d] => { results := [.lit (.bool false)], args := [d] }
  | _ => none }
def BatchHalvesWrongFalsely : Prop := batchHalvesRow.holds Try.pinned (OpenSpec.ofChange batchHalvesWrong)

/-- 'hostlerlaw06.RingFull': WHATEVER THE INPUT: true; the input reads as it did. -/
def ringFullSpec : ChangeSpec := { name := "ringFull", fn := fun _ => fun
  | [d1, d2] => { results := [.lit (.bool true)], args := [d1, d2] }
  | _ => none }
def ringFullRow : OpenClaim := { program := "ytciilbpchejpcaa", sum := "ff023f9649d31904f88d57e5feb7f3aae53e6292b23db94a8779157d17f58587", func := "hostler/hostlerlaw06.RingFull", spec := "ringFull", apart := false }
def RingFullSaid : Prop := ringFullRow.holds Try.pinned (OpenSpec.ofChange ringFullSpec)

/-- ITS FALSE NEIGHBOUR: 'it returns false'. Refute it at one input. -/
def ringFullWrong : ChangeSpec := { name := "ringFull", fn := fun _ => fun
  | [d1, d2] => { results := [.lit (.bool false)], args := [d1, d2] }
  | _ => none }
def RingFullWrongFalsely : Prop := ringFullRow.holds Try.pinned (OpenSpec.ofChange ringFullWrong)

/-- 'hostlerlaw06.RingPlays': WHATEVER THE INPUT: true; the input reads as it did. -/
def ringPlaysSpec : ChangeSpec := { name := "ringPlays", fn := fun _ => fun
  | [d] => { results := [.lit (.bool true)], args := [d] }
  | _ => none }
def ringPlaysRow : OpenClaim := { program := "ytciilbpchejpcaa", sum := "ff023f9649d31904f88d57e5feb7f3aae53e6292b23db94a8779157d17f58587", func := "hostler/hostlerlaw06.RingPlays", spec := "ringPlays", apart := false }
def RingPlaysSaid : Prop := ringPlaysRow.holds Try.pinned (OpenSpec.ofChange ringPlaysSpec)

/-- ITS FALSE NEIGHBOUR: 'it returns false'. Refute it at one input. -/
def ringPlaysWrong : ChangeSpec := { name := "ringPlays", fn := fun _ => fun
  | [d] => { results := [.lit (.bool false)], args := [d] }
  | _ => none }
def RingPlaysWrongFalsely : Prop := ringPlaysRow.holds Try.pinned (OpenSpec.ofChange ringPlaysWrong)

/-- 'hostlerlaw06.RingKeeps': WHATEVER THE INPUT: true; the input reads as it did. -/
def ringKeepsSpec : ChangeSpec := { name := "ringKeeps", fn := fun _ => fun
  | [d] => { results := [.lit (.bool true)], args := [d] }
  | _ => none }
def ringKeepsRow : OpenClaim := { program := "ytciilbpchejpcaa", sum := "ff023f9649d31904f88d57e5feb7f3aae53e6292b23db94a8779157d17f58587", func := "hostler/hostlerlaw06.RingKeeps", spec := "ringKeeps", unfollowed := true, recurses := true, apart := false }
def RingKeepsSaid : Prop := ringKeepsRow.holds Try.pinned (OpenSpec.ofChange ringKeepsSpec)

/-- ITS FALSE NEIGHBOUR: 'it returns false'. Refute it at one input. -/
def ringKeepsWrong : ChangeSpec := { name := "ringKeeps", fn := fun _ => fun
  | [d] => { results := [.lit (.bool false)], args := [d] }
  | _ => none }
def RingKeepsWrongFalsely : Prop := ringKeepsRow.holds Try.pinned (OpenSpec.ofChange ringKeepsWrong)

/-- 'hostlerlaw06.RingFair': WHATEVER THE INPUT: true; the input reads as it did. -/
def ringFairSpec : ChangeSpec := { name := "ringFair", fn := fun _ => fun
  | [d] => { results := [.lit (.bool true)], args := [d] }
  | _ => none }
def ringFairRow : OpenClaim := { program := "ytciilbpchejpcaa", sum := "ff023f9649d31904f88d57e5feb7f3aae53e6292b23db94a8779157d17f58587", func := "hostler/hostlerlaw06.RingFair", spec := "ringFair", apart := false }
def RingFairSaid : Prop := ringFairRow.holds Try.pinned (OpenSpec.ofChange ringFairSpec)

/-- ITS FALSE NEIGHBOUR: 'it returns false'. Refute it at one input. -/
def ringFairWrong : ChangeSpec := { name := "ringFair", fn := fun _ => fun
  | [d] => { results := [.lit (.bool false)], args := [d] }
  | _ => none }
def RingFairWrongFalsely : Prop := ringFairRow.holds Try.pinned (OpenSpec.ofChange ringFairWrong)

/-- 'hostlerlaw06.RingHalves': WHATEVER THE INPUT: true; the input reads as it did. -/
def ringHalvesSpec : ChangeSpec := { name := "ringHalves", fn := fun _ => fun
  | [d1, d2] => { results := [.lit (.bool true)], args := [d1, d2] }
  | _ => none }
def ringHalvesRow : OpenClaim := { program := "ytciilbpchejpcaa", sum := "ff023f9649d31904f88d57e5feb7f3aae53e6292b23db94a8779157d17f58587", func := "hostler/hostlerlaw06.RingHalves", spec := "ringHalves", apart := false }
def RingHalvesSaid : Prop := ringHalvesRow.holds Try.pinned (OpenSpec.ofChange ringHalvesSpec)

/-- ITS FALSE NEIGHBOUR: 'it returns false'. Refute it at one input. -/
def ringHalvesWrong : ChangeSpec := { name := "ringHalves", fn := fun _ => fun
  | [d1, d2] => { results := [.lit (.bool false)], args := [d1, d2] }
  | _ => none }
def RingHalvesWrongFalsely : Prop := ringHalvesRow.holds Try.pinned (OpenSpec.ofChange ringHalvesWrong)

/-- 'hostlerlaw07.GlobalApart': WHATEVER THE INPUT: true; the input reads as it did. -/
def globalApartSpec : ChangeSpec := { name := "globalApart", fn := fun _ => fun
  | [d1, d2] => { results := [.lit (.bool true)], args := [d1, d2] }
  | _ => none }
def globalApartRow : OpenClaim := { program := "ytciilbpchejpcaa", sum := "ff023f9649d31904f88d57e5feb7f3aae53e6292b23db94a8779157d17f58587", func := "hostler/hostlerlaw07.GlobalApart", spec := "globalApart", apart := false }
def GlobalApartSaid : Prop := globalApartRow.holds Try.pinned (OpenSpec.ofChange globalApartSpec)

/-- ITS FALSE NEIGHBOUR: 'it returns false'. Refute it at one input. -/
def globalApartWrong : ChangeSpec := { name := "globalApart", fn := fun _ => fun
  | [d1, d2] => { results := [.lit (.bool false)], args := [d1, d2] }
  | _ => none }
def GlobalApartWrongFalsely : Prop := globalApartRow.holds Try.pinned (OpenSpec.ofChange globalApartWrong)

/-- 'hostlerlaw07.GlobalTurns': WHATEVER THE INPUT: true; the input reads as it did. -/
def globalTurnsSpec : ChangeSpec := { name := "globalTurns", fn := fun _ => fun
  | [d1, d2] => { results := [.lit (.bool true)], args := [d1, d2] }
  | _ => none }
def globalTurnsRow : OpenClaim := { program := "ytciilbpchejpcaa", sum := "ff023f9649d31904f88d57e5feb7f3aae53e6292b23db94a8779157d17f58587", func := "hostler/hostlerlaw07.GlobalTurns", spec := "globalTurns", apart := false }
def GlobalTurnsSaid : Prop := globalTurnsRow.holds Try.pinned (OpenSpec.ofChange globalTurnsSpec)

/-- ITS FALSE NEIGHBOUR: 'it returns false'. Refute it at one input. -/
def globalTurnsWrong : ChangeSpec := { name := "globalTurns", fn := fun _ => fun
  | [d1, d2] => { results := [.lit (.bool false)], args := [d1, d2] }
  | _ => none }
def GlobalTurnsWrongFalsely : Prop := globalTurnsRow.holds Try.pinned (OpenSpec.ofChange globalTurnsWrong)

/-- 'hostlerlaw07.GlobalPlays': WHATEVER THE INPUT: true; the input reads as it did. -/
def globalPlaysSpec : ChangeSpec := { name := "globalPlays", fn := fun _ => fun
  | [d1, d2, d3] => { results := [.lit (.bool true)], args := [d1, d2, d3] }
  | _ => none }
def globalPlaysRow : OpenClaim := { program := "ytciilbpchejpcaa", sum := "ff023f9649d31904f88d57e5feb7f3aae53e6292b23db94a8779157d17f58587", func := "hostler/hostlerlaw07.GlobalPlays", spec := "globalPlays", apart := false }
def GlobalPlaysSaid : Prop := globalPlaysRow.holds Try.pinned (OpenSpec.ofChange globalPlaysSpec)

/-- ITS FALSE NEIGHBOUR: 'it returns false'. Refute it at one input. -/
def globalPlaysWrong : ChangeSpec := { name := "globalPlays", fn := fun _ => fun
  | [d1, d2, d3] => { results := [.lit (.bool false)], args := [d1, d2, d3] }
  | _ => none }
def GlobalPlaysWrongFalsely : Prop := globalPlaysRow.holds Try.pinned (OpenSpec.ofChange globalPlaysWrong)

/-- 'hostlerlaw07.GlobalShares': WHATEVER THE INPUT: true; the input reads as it did. -/
def globalSharesSpec : ChangeSpec := { name := "globalShares", fn := fun _ => fun
  | [d1, d2] => { results := [.lit (.bool true)], args := [d1, d2] }
  | _ => none }
def globalSharesRow : OpenClaim := { program := "ytciilbpchejpcaa", sum := "ff023f9649d31904f88d57e5feb7f3aae53e6292b23db94a8779157d17f58587", func := "hostler/hostlerlaw07.GlobalShares", spec := "globalShares", apart := false }
def GlobalSharesSaid : Prop := globalSharesRow.holds Try.pinned (OpenSpec.ofChange globalSharesSpec)

/-- ITS FALSE NEIGHBOUR: 'it returns false'. Refute it at one input. -/
def globalSharesWrong : ChangeSpec := { name := "globalShares", fn := fun _ => fun
  | [d1, d2] => { results := [.lit (.bool false)], args := [d1, d2] }
  | _ => none }
def GlobalSharesWrongFalsely : Prop := globalSharesRow.holds Try.pinned (OpenSpec.ofChange globalSharesWrong)

/-- 'hostlerlaw07.GlobalOrder': WHATEVER THE INPUT: true; the input reads as it did. -/
def globalOrderSpec : ChangeSpec := { name := "globalOrder", fn := fun _ => fun
  | [d1, d2] => { results := [.lit (.bool true)], args := [d1, d2] }
  | _ => none }
def globalOrderRow : OpenClaim := { program := "ytciilbpchejpcaa", sum := "ff023f9649d31904f88d57e5feb7f3aae53e6292b23db94a8779157d17f58587", func := "hostler/hostlerlaw07.GlobalOrder", spec := "globalOrder", apart := false }
def GlobalOrderSaid : Prop := globalOrderRow.holds Try.pinned (OpenSpec.ofChange globalOrderSpec)

/-- ITS FALSE NEIGHBOUR: 'it returns false'. Refute it at one input. -/
def globalOrderWrong : ChangeSpec := { name := "globalOrder", fn := fun _ => fun
  | [d1, d2] => { results := [.lit (.bool false)], args := [d1, d2] }
  | _ => none }
def GlobalOrderWrongFalsely : Prop := globalOrderRow.holds Try.pinned (OpenSpec.ofChange globalOrderWrong)

/-- 'hostlerlaw08.ClockAfter': WHATEVER THE INPUT: true; the input reads as it did. -/
def clockAfterSpec : ChangeSpec := { name := "clockAfter", fn := fun _ => fun
  | [d1, d2, d3] => { results := [.lit (.bool true)], args := [d1, d2, d3] }
  | _ => none }
def clockAfterRow : OpenClaim := { program := "ytciilbpchejpcaa", sum := "ff023f9649d31904f88d57e5feb7f3aae53e6292b23db94a8779157d17f58587", func := "hostler/hostlerlaw08.ClockAfter", spec := "clockAfter", apart := false }
def ClockAfterSaid : Prop := clockAfterRow.holds Try.pinned (OpenSpec.ofChange clockAfterSpec)

/-- ITS FALSE NEIGHBOUR: 'it returns false'. Refute it at one input. -/
def clockAfterWrong : ChangeSpec := { name := "clockAfter", fn := fun _ => fun
  | [d1, d2, d3] => { results := [.lit (.bool false)], args := [d1, d2, d3] }
  | _ => none }
def ClockAfterWrongFalsely : Prop := clockAfterRow.holds Try.pinned (OpenSpec.ofChange clockAfterWrong)

/-- 'hostlerlaw08.ClockSums': WHATEVER THE INPUT: true; the input reads as it did. -/
def clockSumsSpec : ChangeSpec := { name := "clockSums", fn := fun _ => fun
  | [d1, d2] => { results := [.lit (.bool true)], args := [d1, d2] }
  | _ => none }
def clockSumsRow : OpenClaim := { program := "ytciilbpchejpcaa", sum := "ff023f9649d31904f88d57e5feb7f3aae53e6292b23db94a8779157d17f58587", func := "hostler/hostlerlaw08.ClockSums", spec := "clockSums", apart := false }
def ClockSumsSaid : Prop := clockSumsRow.holds Try.pinned (OpenSpec.ofChange clockSumsSpec)

/-- ITS FALSE NEIGHBOUR: 'it returns false'. Refute it at one input. -/
def clockSumsWrong : ChangeSpec := { name := "clockSums", fn := fun _ => fun
  | [d1, d2] => { results := [.lit (.bool false)], args := [d1, d2] }
  | _ => none }
def ClockSumsWrongFalsely : Prop := clockSumsRow.holds Try.pinned (OpenSpec.ofChange clockSumsWrong)

/-- 'hostlerlaw08.ClockTicks': WHATEVER THE INPUT: true; the input reads as it did. -/
def clockTicksSpec : ChangeSpec := { name := "clockTicks", fn := fun _ => fun
  | [d1, d2, d3] => { results := [.lit (.bool true)], args := [d1, d2, d3] }
  | _ => none }
def clockTicksRow : OpenClaim := { program := "ytciilbpchejpcaa", sum := "ff023f9649d31904f88d57e5feb7f3aae53e6292b23db94a8779157d17f58587", func := "hostler/hostlerlaw08.ClockTicks", spec := "clockTicks", apart := false }
def ClockTicksSaid : Prop := clockTicksRow.holds Try.pinned (OpenSpec.ofChange clockTicksSpec)

/-- ITS FALSE NEIGHBOUR: 'it returns false'. Refute it at one input. -/
def clockTicksWrong : ChangeSpec := { name := "clockTicks", fn := fun _ => fun
  | [d1, d2, d3] => { results := [.lit (.bool false)], args := [d1, d2, d3] }
  | _ => none }
def ClockTicksWrongFalsely : Prop := clockTicksRow.holds Try.pinned (OpenSpec.ofChange clockTicksWrong)

/-- 'hostlerlaw08.ClockParts': WHATEVER THE INPUT: true; the input reads as it did. -/
def clockPartsSpec : ChangeSpec := { name := "clockParts", fn := fun _ => fun
  | [d1, d2] => { results := [.lit (.bool true)], args := [d1, d2] }
  | _ => none }
def clockPartsRow : OpenClaim := { program := "ytciilbpchejpcaa", sum := "ff023f9649d31904f88d57e5feb7f3aae53e6292b23db94a8779157d17f58587", func := "hostler/hostlerlaw08.ClockParts", spec := "clockParts", apart := false }
def ClockPartsSaid : Prop := clockPartsRow.holds Try.pinned (OpenSpec.ofChange clockPartsSpec)

/-- ITS FALSE NEIGHBOUR: 'it returns false'. Refute it at one input. -/
def clockPartsWrong : ChangeSpec := { name := "clockParts", fn := fun _ => fun
  | [d1, d2] => { results := [.lit (.bool false)], args := [d1, d2] }
  | _ => none }
def ClockPartsWrongFalsely : Prop := clockPartsRow.holds Try.pinned (OpenSpec.ofChange clockPartsWrong)

/- THE SECOND FORM. 'bulk': how many values and letters a reading holds, each counted each time it is reached (what is shared counts as often as it is met; a slice's spare places count too). A statement '..UptoSaid' is the law's where the arguments, and the package variables that the reading takes, are together of bulk at most 1048576: NARROWER than '..Said'. Prove '..Said' where nothing that the law and all that it calls make is longer than what came in: it says more and counts as full. Else prove '..UptoSaid'. A law counts once. -/
mutual
def uptoBulk {H : Type} : DataW H → Nat
  | .lit (.string bytes) => bytes.length + 1
  | .lit _ => 1
  | .nil => 1
  | .ptr d => uptoBulk d + 1
  | .slice elems spare => uptoBulkAll elems + uptoBulkAll spare + 1
  | .agg parts => uptoBulkAll parts + 1
  | .iface _ d => uptoBulk d + 1
  | .map entries => uptoBulkEntries entries + 1
  | .held _ => 1
def uptoBulkAll {H : Type} : List (DataW H) → Nat
  | [] => 0
  | d :: r => uptoBulk d + uptoBulkAll r
def uptoBulkEntries {H : Type} : List (Lit × DataW H) → Nat
  | [] => 0
  | x :: r => uptoBulkEntry x + uptoBulkEntries r
def uptoBulkEntry {H : Type} : Lit × DataW H → Nat
  | (.string bytes, d) => bytes.length + uptoBulk d + 1
  | (_, d) => uptoBulk d + 1
 end
def uptoSmall : (H : Type) → List (DataW H) → Bool := fun _ ds => decide (uptoBulkAll ds ≤ 1048576)
def OpenSpec.upto (s : _root_.Go.ChangeSpec) : _root_.Go.OpenSpec := { _root_.Go.OpenSpec.ofChange s with cond := some uptoSmall }

/-- 'hostlerlaw05.BatchFronts', WHERE WHAT IT READS IS OF BULK AT MOST 1048576: true; the input reads as it did. -/
def batchFrontsUptoRow : OpenClaim := { program := "ytciilbpchejpcaa", sum := "ff023f9649d31904f88d57e5feb7f3aae53e6292b23db94a8779157d17f58587", func := "hostler/hostlerlaw05.BatchFronts", spec := "batchFronts", apart := false, narrowed := true }
def BatchFrontsUptoSaid : Prop := batchFrontsUptoRow.holds Try.pinned (OpenSpec.upto batchFrontsSpec)

/-- 'hostlerlaw05.BatchPlays', WHERE WHAT IT READS IS OF BULK AT MOST 1048576: true; the input reads as it did. -/
def batchPlaysUptoRow : OpenClaim := { program := "ytciilbpchejpcaa", sum := "ff023f9649d31904f88d57e5feb7f3aae53e6292b23db94a8779157d17f58587", func := "hostler/hostlerlaw05.BatchPlays", spec := "batchPlays", apart := false, narrowed := true }
def BatchPlaysUptoSaid : Prop := batchPlaysUptoRow.holds Try.pinned (OpenSpec.upto batchPlaysSpec)

/-- 'hostlerlaw05.BatchOrder', WHERE WHAT IT READS IS OF BULK AT MOST 1048576: true; the input reads as it did. -/
def batchOrderUptoRow : OpenClaim := { program := "ytciilbpchejpcaa", sum := "ff023f9649d31904f88d57e5feb7f3aae53e6292b23db94a8779157d17f58587", func := "hostler/hostlerlaw05.BatchOrder", spec := "batchOrder", apart := false, narrowed := true }
def BatchOrderUptoSaid : Prop := batchOrderUptoRow.holds Try.pinned (OpenSpec.upto batchOrderSpec)

/-- 'hostlerlaw05.BatchHalves', WHERE WHAT IT READS IS OF BULK AT MOST 1048576: true; the input reads as it did. -/
def batchHalvesUptoRow : OpenClaim := { program := "ytciilbpchejpcaa", sum := "ff023f9649d31904f88d57e5feb7f3aae53e6292b23db94a8779157d17f58587", func := "hostler/hostlerlaw05.BatchHalves", spec := "batchHalves", apart := false, narrowed := true }
def BatchHalvesUptoSaid : Prop := batchHalvesUptoRow.holds Try.pinned (OpenSpec.upto batchHalvesSpec)

/-- 'hostlerlaw06.RingFull', WHERE WHAT IT READS IS OF BULK AT MOST 1048576: true; the input reads as it did. -/
def ringFullUptoRow : OpenClaim := { program := "ytciilbpchejpcaa", sum := "ff023f9649d31904f88d57e5feb7f3aae53e6292b23db94a8779157d17f58587", func := "hostler/hostlerlaw06.RingFull", spec := "ringFull", apart := false, narrowed := true }
def RingFullUptoSaid : Prop := ringFullUptoRow.holds Try.pinned (OpenSpec.upto ringFullSpec)

/-- 'hostlerlaw06.RingPlays', WHERE WHAT IT READS IS OF BULK AT MOST 1048576: true; the input reads as it did. -/
def ringPlaysUptoRow : OpenClaim := { program := "ytciilbpchejpcaa", sum := "ff023f9649d31904f88d57e5feb7f3aae53e6292b23db94a8779157d17f58587", func := "hostler/hostlerlaw06.RingPlays", spec := "ringPlays", apart := false, narrowed := true }
def RingPlaysUptoSaid : Prop := ringPlaysUptoRow.holds Try.pinned (OpenSpec.upto ringPlaysSpec)

/-- 'hostlerlaw06.RingKeeps', WHERE WHAT IT READS IS OF BULK AT MOST 1048576: true; the input reads as it did. -/
def ringKeepsUptoRow : OpenClaim := { program := "ytciilbpchejpcaa", sum := "ff023f9649d31904f88d57e5feb7f3aae53e6292b23db94a8779157d17f58587", func := "hostler/hostlerlaw06.RingKeeps", spec := "ringKeeps", unfollowed := true, recurses := true, apart := false, narrowed := true }
def RingKeepsUptoSaid : Prop := ringKeepsUptoRow.holds Try.pinned (OpenSpec.upto ringKeepsSpec)

/-- 'hostlerlaw06.RingFair', WHERE WHAT IT READS IS OF BULK AT MOST 1048576: true; the input reads as it did. -/
def ringFairUptoRow : OpenClaim := { program := "ytciilbpchejpcaa", sum := "ff023f9649d31904f88d57e5feb7f3aae53e6292b23db94a8779157d17f58587", func := "hostler/hostlerlaw06.RingFair", spec := "ringFair", apart := false, narrowed := true }
def RingFairUptoSaid : Prop := ringFairUptoRow.holds Try.pinned (OpenSpec.upto ringFairSpec)

/-- 'hostlerlaw06.RingHalves', WHERE WHAT IT READS IS OF BULK AT MOST 1048576: true; the input reads as it did. -/
def ringHalvesUptoRow : OpenClaim := { program := "ytciilbpchejpcaa", sum := "ff023f9649d31904f88d57e5feb7f3aae53e6292b23db94a8779157d17f58587", func := "hostler/hostlerlaw06.RingHalves", spec := "ringHalves", apart := false, narrowed := true }
def RingHalvesUptoSaid : Prop := ringHalvesUptoRow.holds Try.pinned (OpenSpec.upto ringHalvesSpec)

/-- 'hostlerlaw07.GlobalApart', WHERE WHAT IT READS IS OF BULK AT MOST 1048576: true; the input reads as it did. -/
def globalApartUptoRow : OpenClaim := { program := "ytciilbpchejpcaa", sum := "ff023f9649d31904f88d57e5feb7f3aae53e6292b23db94a8779157d17f58587", func := "hostler/hostlerlaw07.GlobalApart", spec := "globalApart", apart := false, narrowed := true }
def GlobalApartUptoSaid : Prop := globalApartUptoRow.holds Try.pinned (OpenSpec.upto globalApartSpec)

/-- 'hostlerlaw07.GlobalTurns', WHERE WHAT IT READS IS OF BULK AT MOST 1048576: true; the input reads as it did. -/
def globalTurnsUptoRow : OpenClaim := { program := "ytciilbpchejpcaa", sum := "ff023f9649d31904f88d57e5feb7f3aae53e6292b23db94a8779157d17f58587", func := "hostler/hostlerlaw07.GlobalTurns", spec := "globalTurns", apart := false, narrowed := true }
def GlobalTurnsUptoSaid : Prop := globalTurnsUptoRow.holds Try.pinned (OpenSpec.upto globalTurnsSpec)

/-- 'hostlerlaw07.GlobalPlays', WHERE WHAT IT READS IS OF BULK AT MOST 1048576: true; the input reads as it did. -/
def globalPlaysUptoRow : OpenClaim := { program := "ytciilbpchejpcaa", sum := "ff023f9649d31904f88d57e5feb7f3aae53e6292b23db94a8779157d17f58587", func := "hostler/hostlerlaw07.GlobalPlays", spec := "globalPlays", apart := false, narrowed := true }
def GlobalPlaysUptoSaid : Prop := globalPlaysUptoRow.holds Try.pinned (OpenSpec.upto globalPlaysSpec)

/-- 'hostlerlaw07.GlobalShares', WHERE WHAT IT READS IS OF BULK AT MOST 1048576: true; the input reads as it did. -/
def globalSharesUptoRow : OpenClaim := { program := "ytciilbpchejpcaa", sum := "ff023f9649d31904f88d57e5feb7f3aae53e6292b23db94a8779157d17f58587", func := "hostler/hostlerlaw07.GlobalShares", spec := "globalShares", apart := false, narrowed := true }
def GlobalSharesUptoSaid : Prop := globalSharesUptoRow.holds Try.pinned (OpenSpec.upto globalSharesSpec)

/-- 'hostlerlaw07.GlobalOrder', WHERE WHAT IT READS IS OF BULK AT MOST 1048576: true; the input reads as it did. -/
def globalOrderUptoRow : OpenClaim := { program := "ytciilbpchejpcaa", sum := "ff023f9649d31904f88d57e5feb7f3aae53e6292b23db94a8779157d17f58587", func := "hostler/hostlerlaw07.GlobalOrder", spec := "globalOrder", apart := false, narrowed := true }
def GlobalOrderUptoSaid : Prop := globalOrderUptoRow.holds Try.pinned (OpenSpec.upto globalOrderSpec)

/-- 'hostlerlaw08.ClockAfter', WHERE WHAT IT READS IS OF BULK AT MOST 1048576: true; the input reads as it did. -/
def clockAfterUptoRow : OpenClaim := { program := "ytciilbpchejpcaa", sum := "ff023f9649d31904f88d57e5feb7f3aae53e6292b23db94a8779157d17f58587", func := "hostler/hostlerlaw08.ClockAfter", spec := "clockAfter", apart := false, narrowed := true }
def ClockAfterUptoSaid : Prop := clockAfterUptoRow.holds Try.pinned (OpenSpec.upto clockAfterSpec)

/-- 'hostlerlaw08.ClockSums', WHERE WHAT IT READS IS OF BULK AT MOST 1048576: true; the input reads as it did. -/
def clockSumsUptoRow : OpenClaim := { program := "ytciilbpchejpcaa", sum := "ff023f9649d31904f88d57e5feb7f3aae53e6292b23db94a8779157d17f58587", func := "hostler/hostlerlaw08.ClockSums", spec := "clockSums", apart := false, narrowed := true }
def ClockSumsUptoSaid : Prop := clockSumsUptoRow.holds Try.pinned (OpenSpec.upto clockSumsSpec)

/-- 'hostlerlaw08.ClockTicks', WHERE WHAT IT READS IS OF BULK AT MOST 1048576: true; the input reads as it did. -/
def clockTicksUptoRow : OpenClaim := { program := "ytciilbpchejpcaa", sum := "ff023f9649d31904f88d57e5feb7f3aae53e6292b23db94a8779157d17f58587", func := "hostler/hostlerlaw08.ClockTicks", spec := "clockTicks", apart := false, narrowed := true }
def ClockTicksUptoSaid : Prop := clockTicksUptoRow.holds Try.pinned (OpenSpec.upto clockTicksSpec)

/-- 'hostlerlaw08.ClockParts', WHERE WHAT IT READS IS OF BULK AT MOST 1048576: true; the input reads as it did. -/
def clockPartsUptoRow : OpenClaim := { program := "ytciilbpchejpcaa", sum := "ff023f9649d31904f88d57e5feb7f3aae53e6292b23db94a8779157d17f58587", func := "hostler/hostlerlaw08.ClockParts", spec := "clockParts", apart := false, narrowed := true }
def ClockPartsUptoSaid : Prop := clockPartsUptoRow.holds Try.pinned (OpenSpec.upto clockPartsSpec)

end Rows
end Go.Proofs.Ytciilbpchejpcaa
