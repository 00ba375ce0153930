/-
  DERIVED. GIVEN WITH THE SEED: THE PROGRAM's TIES (one call each: nine closed facts by the kernel) AND EACH ROW's TIE, after the 31st guide's Derived/Test/Toyas{Tie, Card}.lean. No idea stands in it: it is a product of the set-up. Laid BY PROGRAM, IN A SANDBOX (cutbox-door.mjs). By AI agents, Wed Nov 11 2026. No macro, syntax, notation, axiom, sorry.
-/
import Derived.Test.YtlahinefnhfifaaDoorRows
import Derived.LaidByTextLater
import Derived.SevenTiedAt
import Derived.LaidSub
import Derived.LaidOnce
namespace Go.Proofs.YtlahinefnhfifaaDoor
open Go
set_option maxRecDepth 100000
theorem seatTie1 : Tryd.prog.laidByTextLater [("hostler/status.names", Rows.laid_hostler_status_names), ("hostler/status.steps", Rows.laid_hostler_status_steps), ("hostler/event.names", Rows.laid_hostler_event_names), ("hostler/event.steps", Rows.laid_hostler_event_steps), ("hostler/mach.places", Rows.laid_hostler_mach_places)] [.data, .data, .data, .data, .data] true :=
  Program.laidByTextLater_by_one 73 8 63 (by kernel_rfl) (by kernel_rfl) (by kernel_rfl) (by kernel_rfl) (by kernel_rfl) (by kernel_rfl) (fun _ _ => by kernel_rfl)
theorem noOwnUnsafe : Tryd.pinned.checked.prog.headLifts.contains "ownunsafe" = false := by kernel_rfl
theorem tie : Tryd.prog.laidByTextLater [("hostler/status.names", Rows.laid_hostler_status_names), ("hostler/status.steps", Rows.laid_hostler_status_steps)] [.data, .data] true :=
  Program.laidByTextLater.sub seatTie1 ["hostler/status.names", "hostler/status.steps"] (by kernel_rfl) (by kernel_rfl)
theorem statusSteps_row_tie : Rows.statusStepsRow.laidByTextAt .later Tryd.pinned [.data, .data] true :=
  OpenClaim.laidByTextAt_later rfl rfl tie noOwnUnsafe
theorem tie2 : Tryd.prog.laidByTextLater [("hostler/status.steps", Rows.laid_hostler_status_steps), ("hostler/event.names", Rows.laid_hostler_event_names), ("hostler/event.steps", Rows.laid_hostler_event_steps)] [.data, .data, .data] true :=
  Program.laidByTextLater.sub seatTie1 ["hostler/status.steps", "hostler/event.names", "hostler/event.steps"] (by kernel_rfl) (by kernel_rfl)
theorem eventLegal_row_tie : Rows.eventLegalRow.laidByTextAt .later Tryd.pinned [.data, .data, .data] true :=
  OpenClaim.laidByTextAt_later rfl rfl tie2 noOwnUnsafe
theorem tie3 : Tryd.prog.laidByTextLater [("hostler/event.names", Rows.laid_hostler_event_names), ("hostler/event.steps", Rows.laid_hostler_event_steps)] [.data, .data] true :=
  Program.laidByTextLater.sub seatTie1 ["hostler/event.names", "hostler/event.steps"] (by kernel_rfl) (by kernel_rfl)
theorem eventRight_row_tie : Rows.eventRightRow.laidByTextAt .later Tryd.pinned [.data, .data] true :=
  OpenClaim.laidByTextAt_later rfl rfl tie3 noOwnUnsafe
theorem tie4 : Tryd.prog.laidByTextLater [("hostler/mach.places", Rows.laid_hostler_mach_places)] [.data] true :=
  Program.laidByTextLater.sub seatTie1 ["hostler/mach.places"] (by kernel_rfl) (by kernel_rfl)
theorem machRings_row_tie : Rows.machRingsRow.laidByTextAt .later Tryd.pinned [.data] true :=
  OpenClaim.laidByTextAt_later rfl rfl tie4 noOwnUnsafe
theorem machPlaces_row_tie : Rows.machPlacesRow.laidByTextAt .later Tryd.pinned [.data] true :=
  OpenClaim.laidByTextAt_later rfl rfl tie4 noOwnUnsafe
theorem machLocks_row_tie : Rows.machLocksRow.laidByTextAt .later Tryd.pinned [.data] true :=
  OpenClaim.laidByTextAt_later rfl rfl tie4 noOwnUnsafe
theorem statusStepsUpto_row_tie : Rows.statusStepsUptoRow.laidByTextAt .later Tryd.pinned [.data, .data] true :=
  OpenClaim.laidByTextAt_later rfl rfl tie noOwnUnsafe
theorem eventLegalUpto_row_tie : Rows.eventLegalUptoRow.laidByTextAt .later Tryd.pinned [.data, .data, .data] true :=
  OpenClaim.laidByTextAt_later rfl rfl tie2 noOwnUnsafe
theorem eventRightUpto_row_tie : Rows.eventRightUptoRow.laidByTextAt .later Tryd.pinned [.data, .data] true :=
  OpenClaim.laidByTextAt_later rfl rfl tie3 noOwnUnsafe
theorem machRingsUpto_row_tie : Rows.machRingsUptoRow.laidByTextAt .later Tryd.pinned [.data] true :=
  OpenClaim.laidByTextAt_later rfl rfl tie4 noOwnUnsafe
theorem machPlacesUpto_row_tie : Rows.machPlacesUptoRow.laidByTextAt .later Tryd.pinned [.data] true :=
  OpenClaim.laidByTextAt_later rfl rfl tie4 noOwnUnsafe
theorem machLocksUpto_row_tie : Rows.machLocksUptoRow.laidByTextAt .later Tryd.pinned [.data] true :=
  OpenClaim.laidByTextAt_later rfl rfl tie4 noOwnUnsafe
end Go.Proofs.YtlahinefnhfifaaDoor
