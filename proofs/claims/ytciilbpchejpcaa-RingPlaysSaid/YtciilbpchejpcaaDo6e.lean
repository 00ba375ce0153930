/- The contract of layer 6's 'do': an act, of both: Copy. -/
import Derived.Test.YtciilbpchejpcaaRefF
import Derived.Test.YtciilbpchejpcaaBig
import Derived.Deep.RegionLaw
import Derived.Deep.RegionHeld3
namespace Go.Proofs.Ytciilbpchejpcaa
set_option linter.unusedVariables false
set_option linter.unusedSimpArgs false
open Go.RowKit

theorem rg_cells {w : World} {p : Nat} {xs : List Int} {nx : Int} {hs : Bool} {st : Int} (H : Rg w p xs nx hs st) : ∃ cs, w.heap[p]? = some (.cells cs 93 (0, 0)) ∧ cs.size = 261 ∧ cs.all (·.oneCell') = true := H.cells
set_option maxRecDepth 100000 in
set_option maxHeartbeats 2000000 in
theorem copy_r (p : Nat) (xs : List Int) (nx : Int) (hs : Bool) (st : Int) (w : World) (H : Rg w p xs nx hs st) :
    Calls Try.prog 80 #[.pointer (some ⟨p, 0, none⟩)] w fun e w' => ∃ q, e = .returned (.pointer (some ⟨q, 0, none⟩)) ∧ Rg w' q xs nx hs st ∧ w.heap.size ≤ q ∧ Below w.heap.size w w' := by
  obtain ⟨cs, hc, hz, h1⟩ := H.cells
  have HC := hid hc
  have HZ := hid hz
  have HS := hid (show (Try.prog.info? 93).map (·.size) = some cs.size by rw [hz]; kernel_rfl)
  have H1 := hid h1
  have HR := hid (H.copied (w2 := w) hc)
  have HY := hid (show Try.zeroCells93.size = cs.size by rw [hz, zero_is]; kernel_rfl)
  clear H hc hz h1
  go_enter Try.func80, Try.ntmps80
  go_wp2_with (first
    | (refine wpList_store_new rfl 93 (.tmp 3) (.tmp 6) rfl _ cs 93 rfl rfl HS.out HY.out H1.out ?_)
    | (refine wpList_load_known rfl 93 (.tmp 5) rfl p rfl 93 cs (0, 0) _ HC.out Try.underlying93 rfl HS.out ?_))
  go_ret
  exact ⟨w.heap.size, rfl, HR.out, Nat.le_refl _, (Below.refl _ _).alloc (Nat.le_refl _) _⟩
end Go.Proofs.Ytciilbpchejpcaa
