/- hostlerlaw26.few, things: of any row of raw things (wip/tools/genbym.py). -/
import Derived.Test.YtbplbdopnhnhdaaGreatDoorPreY
namespace Go.Proofs.YtbplbdopnhnhdaaGreatDoor
open Go.RowKit
set_option linter.unusedVariables false
set_option linter.unusedSimpArgs false
set_option maxRecDepth 20000
def raw0 : Raw := ⟨0, (0, 0, 0), (0, 0, 0, 0, 0), (0, 0, 0, 0, 0), 0, 0, { data := #[] }⟩
def rawAt (l : List Raw) (i : Nat) : Raw := l.getD i raw0
/-- A slice that reads as raw things. -/
def RdR (w : World) (v : Value) (l : List Raw) : Prop :=
  ∃ a c, v = .slice a l.length c ∧ l.length ≤ c ∧ c ≤ maxLen ∧ (0 < l.length → ∃ g off, a = some ⟨g, off, none⟩ ∧ g < w.heap.size ∧ ∀ i, i < l.length → ∀ j, j < 17 → w.cell? ⟨g, off + (i * 17 + j), none⟩ = (rawc (rawAt l i))[j]?)
theorem RdR.below {w w' : World} {v : Value} {l : List Raw} (h : RdR w v l) (hb : Below w.heap.size w w') : RdR w' v l := by
  obtain ⟨a, c, h1, h2, h3, h4⟩ := h
  refine ⟨a, c, h1, h2, h3, fun h0 => ?_⟩
  obtain ⟨g, off, e, hg, hc⟩ := h4 h0
  have hs := hb.size
  exact ⟨g, off, e, by omega, fun i hi j hj => (hb.cell (p := ⟨g, _, none⟩) hg).trans (hc i hi j hj)⟩
theorem raw17 {w : World} {g off k : Nat} {x : Raw} (h : ∀ j, j < 17 → w.cell? ⟨g, off + (k * 17 + j), none⟩ = (rawc x)[j]?) :
    w.cell? ⟨g, off + k * 17, none⟩ = some (.int .u8 x.k) ∧
    w.cell? ⟨g, off + k * 17 + 1, none⟩ = some (.int .i64 x.c.1) ∧
    w.cell? ⟨g, off + k * 17 + 2, none⟩ = some (.int .i64 x.c.2.1) ∧
    w.cell? ⟨g, off + k * 17 + 3, none⟩ = some (.int .i64 x.c.2.2) ∧
    w.cell? ⟨g, off + k * 17 + 4, none⟩ = some (.int .u8 x.s.1) ∧
    w.cell? ⟨g, off + k * 17 + 5, none⟩ = some (.int .u8 x.s.2.1) ∧
    w.cell? ⟨g, off + k * 17 + 6, none⟩ = some (.int .i64 x.s.2.2.1) ∧
    w.cell? ⟨g, off + k * 17 + 7, none⟩ = some (.int .i64 x.s.2.2.2.1) ∧
    w.cell? ⟨g, off + k * 17 + 8, none⟩ = some (.int .i64 x.s.2.2.2.2) ∧
    w.cell? ⟨g, off + k * 17 + 9, none⟩ = some (.int .i64 x.e.1) ∧
    w.cell? ⟨g, off + k * 17 + 10, none⟩ = some (.int .i64 x.e.2.1) ∧
    w.cell? ⟨g, off + k * 17 + 11, none⟩ = some (.int .i64 x.e.2.2.1) ∧
    w.cell? ⟨g, off + k * 17 + 12, none⟩ = some (.int .i64 x.e.2.2.2.1) ∧
    w.cell? ⟨g, off + k * 17 + 13, none⟩ = some (.int .i64 x.e.2.2.2.2) ∧
    w.cell? ⟨g, off + k * 17 + 14, none⟩ = some (.int .i64 x.n) ∧
    w.cell? ⟨g, off + k * 17 + 15, none⟩ = some (.int .i32 x.r) ∧
    w.cell? ⟨g, off + k * 17 + 16, none⟩ = some (.string x.t) := by
  have h' : ∀ j, j < 17 → w.cell? ⟨g, off + k * 17 + j, none⟩ = (rawc x)[j]? := fun j hj => by rw [Nat.add_assoc]; exact h j hj
  exact ⟨h' 0 (by decide), h' 1 (by decide), h' 2 (by decide), h' 3 (by decide), h' 4 (by decide), h' 5 (by decide), h' 6 (by decide), h' 7 (by decide), h' 8 (by decide), h' 9 (by decide), h' 10 (by decide), h' 11 (by decide), h' 12 (by decide), h' 13 (by decide), h' 14 (by decide), h' 15 (by decide), h' 16 (by decide)⟩
/-- Few, and little. -/
def fewB (l : List Raw) : Bool := l.all (fun x => decide (x.t.size ≤ 100)) && decide (l.length ≤ 40)
theorem raw_take {l : List Raw} {k : Nat} (h : k < l.length) : l.take (k + 1) = l.take k ++ [rawAt l k] := by
  rw [List.take_add_one, List.getElem?_eq_getElem h]
  simp [rawAt, List.getElem?_eq_getElem h]
theorem raw_mem {l : List Raw} {k : Nat} (h : k < l.length) : rawAt l k ∈ l := by
  unfold rawAt
  rw [List.getD_eq_getElem?_getD, List.getElem?_eq_getElem h]
  exact List.getElem_mem _
set_option maxHeartbeats 8000000 in
theorem few_any (v : Value) (l : List Raw) (w : World) (hr : RdR w v l) : Calls Tryz.prog 9 #[v] w fun e w' => e = .returned (.bool (fewB l)) ∧ Below w.heap.size w w' := by
  have RD := hid hr
  obtain ⟨a, c, rfl, hlc, hcm, _⟩ := hr
  obtain ⟨n, hn⟩ : ∃ n, n = l.length := ⟨_, rfl⟩
  have HN := hid hn
  have hnm : (n : Int) ≤ 9223372036854775807 := by unfold maxLen at hcm; omega
  rw [← hn]
  clear hn
  go_enter Tryz.func9, Tryz.ntmps9
  go_wp2_with fail
  go_loopw [7] (fun i wr => ∃ k : Nat, k ≤ n ∧ i = .int .i64 k ∧ Hid (∀ q, q < k → (rawAt l q).t.size ≤ 100) ∧ Hid (Below w.heap.size w wr)) (fun i _ => n - (intOf i).toNat)
  case atStart => exact ⟨0, Nat.zero_le _, rfl, hid (fun q h => by omega), hid (Below.refl _ _)⟩
  case round =>
    obtain ⟨k, hk, rfl, AL, B⟩ := hrel
    by_cases hlt : k < n
    · obtain ⟨a', c', e, _, _, hh⟩ := RD.out.below B.out
      simp only [Value.slice.injEq] at e
      obtain ⟨rfl, e9, rfl⟩ := e
      clear e9
      obtain ⟨q, off, rfl, _, hc⟩ := hh (by have := HN.out; omega)
      obtain ⟨h0, h1, h2, h3, h4, h5, h6, h7, h8, h9, h10, h11, h12, h13, h14, h15, h16⟩ := raw17 (hc k (by have := HN.out; omega))
      have XK := hid (show rawAt l k = rawAt l k from rfl)
      generalize hx : rawAt l k = x at *
      have B2 := hid (B.out.alloc B.out.size (.cells (rawc x) 36))
      have BX := hid (Deep.blk_alloc_new wr (.cells (rawc x) 36))
      have t16 : (wr.alloc (.cells (rawc x) 36)).cell? ⟨wr.heap.size, 16, none⟩ = some (.string x.t) := blk_cell BX.out rfl
      have HX := hid hx
      clear hh hc B hx
      by_cases ht : (100 : Int) < x.t.size
      · have hf : fewB l = false := by
          unfold fewB
          rw [show l.all (fun x => decide (x.t.size ≤ 100)) = false from List.all_eq_false.2 ⟨x, by rw [← HX.out]; exact raw_mem (by have := HN.out; omega), by simp; omega⟩]
          rfl
        have HF := hid hf
        clear hf
        go_wp2_with (refine wpList_store_new rfl 36 (.tmp 4) (.tmp 10) rfl _ (rawc x) 36 rfl rfl (by kernel_rfl) (by rfl) (by rfl) ?_)
        go_ret
        exact ⟨by rw [HF.out]; rfl, B2.out⟩
      · have ht2 : (x.t.size : Int) ≤ 100 := by omega
        have AL2 := hid (show ∀ q, q < k + 1 → (rawAt l q).t.size ≤ 100 from fun q hq => by
          rcases Nat.lt_or_ge q k with h | h
          · exact AL.out q h
          · obtain rfl : q = k := by omega
            rw [HX.out]; omega)
        clear ht AL
        go_wp2_with (refine wpList_store_new rfl 36 (.tmp 4) (.tmp 10) rfl _ (rawc x) 36 rfl rfl (by kernel_rfl) (by rfl) (by rfl) ?_)
        go_roundw
        case rel => exact ⟨k + 1, by omega, by go_num, AL2, B2⟩
        case measure => simp [intOf]; omega
    · obtain rfl : k = n := by omega
      have hf : fewB l = decide ((k : Int) ≤ 40) := by
        unfold fewB
        rw [show l.all (fun x => decide (x.t.size ≤ 100)) = true from List.all_eq_true.2 (fun x hx => by
          obtain ⟨q, hq, rfl⟩ := List.getElem_of_mem hx
          have := AL.out q (by have := HN.out; omega)
          simpa [rawAt, hq] using this)]
        have := HN.out
        rw [Bool.true_and]
        congr 1
        exact propext ⟨fun h => by omega, fun h => by omega⟩
      have HF := hid hf
      clear hf AL
      go_wp2
      go_ret
      exact ⟨by rw [HF.out]; rfl, B.out⟩
end Go.Proofs.YtbplbdopnhnhdaaGreatDoor
