/- timer.New(1) and source.New(1): a pointer, and new memory. -/
import Derived.Test.YtfpkgkjmpcoppaaGreatDoorWoR
import Derived.Deep.AppendLies
namespace Go.Proofs.YtfpkgkjmpcoppaaGreatDoor
open Go.RowKit
set_option linter.unusedVariables false
set_option linter.unusedSimpArgs false
set_option maxRecDepth 20000
theorem infoHpp : (Tryz.prog.info? 182).map (fun i => (i.zero, i.size, i.bytes)) = some (some (.pointer none), 1, 8) := by kernel_rfl
theorem cell_ent2 {w : World} {p i : Nat} {cs : Array Value} {t : TypeId} {fr : Nat × Nat} {v : Value} (h : w.heap[p]? = some (.cells cs t fr)) (hi : cs[i]? = some v) : w.cell? ⟨p, i, none⟩ = some v := blk_cell h hi
set_option maxHeartbeats 8000000 in
theorem tnew_b (w : World) : Calls Tryz.prog 69 #[.int .i64 1] w (PtrB w) := by
  have mk : ∀ T (w : World), (Instr.makeMap T none).run Tryz.prog w = .ok (.map (some w.heap.size)) (w.alloc (.map #[] 0)) := fun T w => rfl
  go_enter Tryz.func69, Tryz.ntmps69
  go_wp2_with fail
  clear mk
  obtain ⟨w1, hw1⟩ : ∃ w1, w1 = ((w.alloc (.map #[] 0)).alloc (.cells #[.slice none 0 0, .map (some w.heap.size), .int .u64 0] 181)) := ⟨_, rfl⟩
  have X := hid (show Below w.heap.size w w1 ∧ w1.heap[w.heap.size + 1]? = some (.cells #[.slice none 0 0, .map (some w.heap.size), .int .u64 0] 181 (0, 0)) from by
    rw [hw1]
    refine ⟨((Below.refl _ _).alloc (Nat.le_refl _) _).alloc (by simp) _, ?_⟩
    have h1 := Deep.blk_alloc_new (w.alloc (.map #[] 0)) (.cells #[.slice none 0 0, .map (some w.heap.size), .int .u64 0] 181)
    rw [World.size_alloc] at h1
    exact h1)
  try rw [← hw1]
  clear hw1
  obtain ⟨t, ht⟩ : ∃ x, x = w.heap.size + 1 := ⟨_, rfl⟩
  rw [← ht] at X
  have HT := hid ht
  rw [← ht]
  clear ht
  go_loopw [10] (fun x wr => (x = .int .i64 0 ∧ wr = w1) ∨ (x = .int .i64 1 ∧ Hid (Below w.heap.size w wr))) (fun x _ => 1 - (intOf x).toNat)
  case atStart => exact .inl ⟨rfl, rfl⟩
  case round =>
    obtain ⟨rfl, rfl⟩ | ⟨rfl, R⟩ := hrel
    · obtain ⟨i0, h0, hz0, hz1, hz2⟩ := info_parts infoHpp
      have c0 : wr.cell? ⟨t, 0, none⟩ = some (.slice none 0 0) := blk_cell X.out.2 rfl
      have NB := hid (show ((wr.alloc (.cells #[.slice none 0 0] 185)).alloc (.cells #[.pointer (some ⟨wr.heap.size, 0, none⟩)] 182)).heap[wr.heap.size + 1]? = some (.cells #[.pointer (some ⟨wr.heap.size, 0, none⟩)] 182 (0, 0)) by
        have := Deep.blk_alloc_new (wr.alloc (.cells #[.slice none 0 0] 185)) (.cells #[.pointer (some ⟨wr.heap.size, 0, none⟩)] 182)
        rw [World.size_alloc] at this
        exact this)
      have B1 := hid (show 0 + 1 ≤ maxLen by unfold maxLen; omega)
      have B2 := hid (show (0 + 1) * 8 ≤ 140737488355328 by omega)
      have B3 := hid (show w.heap.size ≤ ((wr.alloc (.cells #[.slice none 0 0] 185)).alloc (.cells #[.pointer (some ⟨wr.heap.size, 0, none⟩)] 182)).heap.size by
        have := X.out.1.size
        simp; omega)
      have Z := hid (fun (w4 : World) (v : Value) (hg : ((wr.alloc (.cells #[.slice none 0 0] 185)).alloc (.cells #[.pointer (some ⟨wr.heap.size, 0, none⟩)] 182)).grownBy w4 none) =>
        (show w4.cell? ⟨t, 0, none⟩ = some (.slice none 0 0) ∧ w4.frozen? ⟨t, 0, none⟩ = false ∧ Below w.heap.size w (w4.setCell ⟨t, 0, none⟩ v) from by
          have htl := blk_lt X.out.2
          have hs := X.out.1.size
          have e : ∀ k, k < wr.heap.size → w4.heap[k]? = wr.heap[k]? := fun k hk => by
            rw [hg.block k (by simp; omega) (by simp), Below.heap_alloc _ _ _ (by simp; omega), Below.heap_alloc _ _ _ hk]
          have hs4 := hg.size
          simp only [World.size_alloc] at hs4
          have e2 := (e t htl).trans X.out.2
          refine ⟨blk_cell e2 rfl, blk_free e2, ⟨hg.os.trans X.out.1.os, hg.tape.trans X.out.1.tape, hg.output.trans X.out.1.output, by simp [World.setCell]; omega, fun k hk => ?_⟩⟩
          have ht := HT.out
          exact (Below.heap_setCell _ _ _ _ (by show k ≠ t; omega)).trans ((e k (by omega)).trans (X.out.1.block k hk))))
      go_wp2_with (at_builtin; refine wpList_append_lies _ rfl _ _ 179 rfl w.heap.size 182 i0 (.pointer none) 1 8 Tryz.underlying179 h0 hz0 hz1 hz2 rfl (by decide) _ 0 [] rfl (World.ownsRow_nil _ _ _ _) ⟨wr.heap.size + 1, 0, none⟩ 1 1 [.pointer (some ⟨wr.heap.size, 0, none⟩)] rfl rfl (World.news_of_block (cs := #[.pointer (some ⟨wr.heap.size, 0, none⟩)]) (t := 182) (fr := (0, 0)) NB.out) (by simp [Value.oneCell']) (by omega) B1.out B2.out B3.out (wr.heap.size + 2) (by simp) ?_; intro gg cap w4 hown hgrow hat hl4; obtain ⟨y0, f0, F4⟩ := Z.out w4 (.slice (some ⟨gg, 0, none⟩) 1 cap) hgrow; have F4 := hid F4; clear hown hgrow hat hl4 c0)
      go_roundw
      case rel => exact .inr ⟨by go_num, F4⟩
      case measure => simp [intOf]
    · have RO := R
      clear X R
      go_wp2
      go_ret
      exact ⟨t, rfl, RO.out⟩
set_option maxHeartbeats 2000000 in
theorem snew_b (w : World) : Calls Tryz.prog 40 #[.int .i64 1] w (PtrB w) := by
  go_enter Tryz.func40, Tryz.ntmps40
  go_wp2_with fail
  refine (tnew_b _).mono ?_
  rintro e w2 ⟨t, rfl, hb⟩
  have B2 := hid hb
  clear hb
  go_wp2_with fail
  refine (pnew_b _).mono ?_
  rintro e w3 ⟨p, rfl, hb⟩
  have hs := B2.out.size
  have B3 := hid (B2.out.trans (hb.mono B2.out.size))
  have hs3 := B3.out.size
  clear hb
  go_wp2
  go_ret
  exact ⟨_, rfl, B3.out.alloc hs3 _⟩
end Go.Proofs.YtfpkgkjmpcoppaaGreatDoor
