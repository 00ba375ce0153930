/- hostlerlaw01.do: one act (more of the kinds). -/
import Derived.Test.YtdbionbdcjpmaaaDo01a
import Derived.Test.YtdbionbdcjpmaaaDo01b
import Derived.Test.YtdbionbdcjpmaaaDo01c
namespace Go.Proofs.Ytdbionbdcjpmaaa.cellPlays
open Go.RowKit
set_option linter.unusedVariables false
set_option linter.unusedSimpArgs false

/-- One act, whatever it is. -/
theorem do_any (kd i X Y D : Int) (k base n c b g : Nat) (a : Option Addr) (xs : List Int) (w : World) (h : Offs w base 30 (.slice a n c) (vals xs)) (hm : Mem w b g xs k) (hb : b < base) (hg : g < base) (hbs : base ≤ w.heap.size) (hl : xs.length ≤ 1000) (hk9 : k ≤ 900000) (hk0 : 0 ≤ kd) (hk1 : kd ≤ 255) :
    Calls Try.prog 9 #[.pointer (some ⟨b, 0, none⟩), .agg #[.slice a n c, .int .i64 k], .agg #[.int .u8 kd, .int .i64 i, .int .u64 X, .int .u64 Y, .int .i64 D]] w (fun e w' => ∃ xs2 k2, xs2.length = xs.length ∧ k2 ≤ k + 2 ∧ DoPost w base n b g (.slice a n c) xs2 k2 e w') := by
  have E : ∀ (xs2 : List Int) (k2 : Nat), xs2.length = xs.length → k2 ≤ k + 2 → ∀ e w', DoPost w base n b g (.slice a n c) xs2 k2 e w' → ∃ xs2 k2, xs2.length = xs.length ∧ k2 ≤ k + 2 ∧ DoPost w base n b g (.slice a n c) xs2 k2 e w' := fun xs2 k2 h1 h2 e w' h => ⟨xs2, k2, h1, h2, h⟩
  have hkd : kd % 6 = 0 ∨ kd % 6 = 1 ∨ kd % 6 = 2 ∨ kd % 6 = 3 ∨ kd % 6 = 4 ∨ kd % 6 = 5 := by omega
  by_cases hi : 0 ≤ i ∧ i < xs.length
  · obtain ⟨h0, h1⟩ := hi
    rcases hkd with q | q | q | q | q | q
    · exact (do_load_in kd i X Y D k base n c b g a xs w h hm hb hg hbs hl hk9 hk0 hk1 q h0 h1).mono (E _ _ rfl (by omega))
    · exact (do_store_in kd i X Y D k base n c b g a xs w h hm hb hg hbs hl hk9 hk0 hk1 q h0 h1).mono (E _ _ (by simp) (by omega))
    · by_cases he : xs.getD i.toNat 0 = X
      · exact (do_swap_yes kd i X Y D k base n c b g a xs w h hm hb hg hbs hl hk9 hk0 hk1 q h0 h1 he).mono (E _ _ (by simp) (by omega))
      · exact (do_swap_no kd i X Y D k base n c b g a xs w h hm hb hg hbs hl hk9 hk0 hk1 q h0 h1 he).mono (E _ _ rfl (by omega))
    · exact (do_add_in kd i X Y D k base n c b g a xs w h hm hb hg hbs hl hk9 hk0 hk1 q h0 h1).mono (E _ _ (by simp) (by omega))
    · exact (do_four_in kd i X Y D k base n c b g a xs w h hm hb hg hbs hl hk9 hk0 hk1 q h0 h1).mono (E _ _ (by simp) (by omega))
    · exact (do_five_in kd i X Y D k base n c b g a xs w h hm hb hg hbs hl hk9 hk0 hk1 q h0 h1).mono (E _ _ rfl (by omega))
  · have ho : i < 0 ∨ (xs.length : Int) ≤ i := by omega
    rcases hkd with q | q | q | q | q | q
    · exact (do_load_out kd i X Y D k base n c b g a xs w h hm hb hg hbs hl hk9 hk0 hk1 q ho).mono (E _ _ rfl (by omega))
    · exact (do_store_out kd i X Y D k base n c b g a xs w h hm hb hg hbs hl hk9 hk0 hk1 q ho).mono (E _ _ rfl (by omega))
    · exact (do_swap_out kd i X Y D k base n c b g a xs w h hm hb hg hbs hl hk9 hk0 hk1 q ho).mono (E _ _ rfl (by omega))
    · exact (do_add_out kd i X Y D k base n c b g a xs w h hm hb hg hbs hl hk9 hk0 hk1 q ho).mono (E _ _ rfl (by omega))
    · exact (do_four_out kd i X Y D k base n c b g a xs w h hm hb hg hbs hl hk9 hk0 hk1 q ho).mono (E _ _ rfl (by omega))
    · exact (do_five_out kd i X Y D k base n c b g a xs w h hm hb hg hbs hl hk9 hk0 hk1 q ho).mono (E _ _ rfl (by omega))
end Go.Proofs.Ytdbionbdcjpmaaa.cellPlays
