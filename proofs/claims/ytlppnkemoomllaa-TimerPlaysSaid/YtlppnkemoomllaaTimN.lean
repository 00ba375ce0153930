/- timer.New. -/
import Derived.Test.YtlppnkemoomllaaTimC
import Derived.Deep.AppendLies
namespace Go.Proofs.Ytlppnkemoomllaa
set_option linter.unusedVariables false
set_option linter.unusedSimpArgs false
open Go.RowKit Tk

theorem infoHp2 : (Try.prog.info? 61).map (fun i => (i.zero, i.size, i.bytes)) = some (some (.pointer none), 1, 8) := by kernel_rfl
/-- So many heaps were made. -/
structure Nw (w : World) (hp : Nat → Nat) (vr : Value) (i : Nat) (wr : World) : Prop where
  bl : Below w.heap.size w wr
  box : wr.heap[w.heap.size + 1]? = some (.cells #[vr, .map (some w.heap.size), .int .u64 0] 60 (0, 0))
  mp : MapI wr w.heap.size .i64 (fun _ => none) 0
  own : wr.ownsRow (w.heap.size + 2) 61 1 vr i ((List.range i).map fun j => .pointer (some ⟨hp j, 0, none⟩))
  hs : ∀ j, j < i → wr.heap[hp j]? = some (.cells #[.slice none 0 0] 63 (0, 0)) ∧ w.heap.size + 2 ≤ hp j ∧ vr.ownBlock ≠ some (hp j)
  ne : ∀ j l, j < i → l < i → hp j = hp l → j = l
theorem Nw.start (w : World) (hp : Nat → Nat) : Nw w hp (.slice none 0 0) 0 ((w.alloc (.map #[] 0)).alloc (.cells #[.slice none 0 0, .map (some w.heap.size), .int .u64 0] 60)) := by
  have h1 := Deep.blk_alloc_new (w.alloc (.map #[] 0)) (.cells #[.slice none 0 0, .map (some w.heap.size), .int .u64 0] 60)
  rw [World.size_alloc] at h1
  exact ⟨(bl_al w _).trans ((bl_al _ _).mono (by simp)), h1, (MapI.new w .i64).kept (Below.heap_alloc _ _ _ (by simp)), ⟨by simp, .inl ⟨rfl, rfl⟩⟩, fun j hj => by omega, fun j l hj => by omega⟩
section
variable {w : World} {hp : Nat → Nat} {vr : Value} {i : Nat} {wr w4 : World}
theorem own_ge {b n : Nat} {e : TypeId} {xs : List Value} (h : wr.ownsRow b e 1 vr n xs) : ∀ q, vr.ownBlock = some q → b ≤ q ∧ q < wr.heap.size := by
  intro q hq
  rcases h.2 with ⟨rfl, _⟩ | ⟨g, cap, cur, rfl, hb, hgg, _⟩
  · cases hq
  · simp only [Value.ownBlock, Option.some.injEq] at hq
    subst hq
    exact ⟨hb, (Array.getElem?_eq_some_iff.1 hgg).1⟩
theorem Nw.blk (h : Nw w hp vr i wr)
    (hgrow : ((wr.alloc (.cells #[.slice none 0 0] 63)).alloc (.cells #[.pointer (some ⟨wr.heap.size, 0, none⟩)] 61)).grownBy w4 vr.ownBlock) (k : Nat) (hk : k < wr.heap.size) (hne : vr.ownBlock ≠ some k) : w4.heap[k]? = wr.heap[k]? := by
  rw [hgrow.block k (by simp; omega) (fun e => hne e.symm), Below.heap_alloc _ _ _ (by simp; omega), Below.heap_alloc _ _ _ hk]
theorem Nw.tlt (h : Nw w hp vr i wr) : w.heap.size + 1 < wr.heap.size := (Array.getElem?_eq_some_iff.1 h.box).1
theorem Nw.notT (h : Nw w hp vr i wr) {k : Nat} (hk : k < w.heap.size + 2) : vr.ownBlock ≠ some k := fun e => by have := own_ge h.own _ e; omega
theorem Nw.keep (h : Nw w hp vr i wr)
    (hgrow : ((wr.alloc (.cells #[.slice none 0 0] 63)).alloc (.cells #[.pointer (some ⟨wr.heap.size, 0, none⟩)] 61)).grownBy w4 vr.ownBlock) :
    w4.cell? ⟨w.heap.size + 1, 0, none⟩ = some vr ∧ w4.frozen? ⟨w.heap.size + 1, 0, none⟩ = false := by
  have hb := (h.blk hgrow (w.heap.size + 1) h.tlt (h.notT (by omega))).trans h.box
  exact ⟨cell_ent hb rfl, by simp [World.frozen?, hb]⟩
theorem Nw.step {gg cap : Nat} (h : Nw w hp vr i wr)
    (hown : w4.ownsRow (w.heap.size + 2) 61 1 (.slice (some ⟨gg, 0, none⟩) (i + 1) cap) (i + 1) (((List.range i).map fun j => Value.pointer (some ⟨hp j, 0, none⟩)) ++ [.pointer (some ⟨wr.heap.size, 0, none⟩)]))
    (hgrow : ((wr.alloc (.cells #[.slice none 0 0] 63)).alloc (.cells #[.pointer (some ⟨wr.heap.size, 0, none⟩)] 61)).grownBy w4 vr.ownBlock)
    (hat : vr.ownBlock = some gg ∨ gg = wr.heap.size + 2) (hlt : gg < w4.heap.size) :
    Nw w (updN hp i wr.heap.size) (.slice (some ⟨gg, 0, none⟩) (i + 1) cap) (i + 1) (w4.setCell ⟨w.heap.size + 1, 0, none⟩ (.slice (some ⟨gg, 0, none⟩) (i + 1) cap)) := by
  have lt := h.tlt
  have st : ∀ x, x ≠ w.heap.size + 1 → (w4.setCell ⟨w.heap.size + 1, 0, none⟩ (.slice (some ⟨gg, 0, none⟩) (i + 1) cap)).heap[x]? = w4.heap[x]? := fun x hx => Below.heap_setCell _ _ _ _ hx
  have ss : (w4.setCell ⟨w.heap.size + 1, 0, none⟩ (.slice (some ⟨gg, 0, none⟩) (i + 1) cap)).heap.size = w4.heap.size := by simp [World.setCell]
  have s4 := hgrow.size
  simp only [World.size_alloc] at s4
  have hgl : vr.ownBlock = some gg → gg < wr.heap.size := fun e => (own_ge h.own _ e).2
  have hpl : ∀ j, j < i → hp j < wr.heap.size := fun j hj => (Array.getElem?_eq_some_iff.1 (h.hs j hj).1).1
  refine ⟨⟨hgrow.os.trans h.bl.os, hgrow.tape.trans h.bl.tape, hgrow.output.trans h.bl.output, by rw [ss]; have := h.bl.size; omega, fun k hk => ?_⟩, ?_, ?_, ?_, fun j hj => ?_, fun j l hj hl e => ?_⟩
  · rw [st k (by omega), h.blk hgrow k (by omega) (h.notT (by omega))]
    exact h.bl.block k hk
  · have hb := (h.blk hgrow (w.heap.size + 1) lt (h.notT (by omega))).trans h.box
    simp [World.setCell, Array.getElem?_modify, hb]
  · exact h.mp.kept ((st _ (by omega)).trans (h.blk hgrow _ (by omega) (h.notT (by omega))))
  · refine ⟨by simp, ?_⟩
    rcases hown.2 with ⟨e, _⟩ | ⟨g, c2, cur, e, hb, hgg, r1, r2, r3, r4⟩
    · cases e
    · have hg2 : gg = g := by injection e with e1 e2 e3; injection e1 with e1; injection e1
      subst hg2
      refine .inr ⟨gg, c2, cur, e, hb, (st gg (by omega)).trans hgg, r1, r2, r3, r4.trans ?_⟩
      rw [List.range_succ, List.map_append]
      congr 1
      · refine List.map_congr_left fun j hj => ?_
        rw [updN_ne _ _ (by have := List.mem_range.1 hj; omega)]
      · simp [updN_same]
  · by_cases hji : j = i
    · subst hji
      rw [updN_same]
      refine ⟨?_, by omega, fun e => ?_⟩
      · rw [st _ (by omega), hgrow.block _ (by simp; omega) (fun e => by have := own_ge h.own _ e.symm; omega), Below.heap_alloc _ _ _ (by simp)]
        exact Deep.blk_alloc_new _ _
      · simp only [Value.ownBlock, Option.some.injEq] at e
        rcases hat with h1 | h1
        · have := hgl h1; omega
        · omega
    · have hj2 : j < i := by omega
      rw [updN_ne _ _ hji]
      obtain ⟨a1, a2, a3⟩ := h.hs j hj2
      have a4 := hpl j hj2
      refine ⟨?_, a2, fun e => ?_⟩
      · rw [st _ (by omega), h.blk hgrow _ a4 a3]; exact a1
      · simp only [Value.ownBlock, Option.some.injEq] at e
        rcases hat with h1 | h1
        · exact a3 (by rw [h1, e])
        · omega
  · by_cases hji : j = i <;> by_cases hli : l = i
    · omega
    · subst hji; rw [updN_same, updN_ne _ _ hli] at e; have := hpl l (by omega); omega
    · subst hli; rw [updN_same, updN_ne _ _ hji] at e; have := hpl j (by omega); omega
    · rw [updN_ne _ _ hji, updN_ne _ _ hli] at e; exact h.ne j l (by omega) (by omega) e
theorem Nw.fin {n : Nat} (h : Nw w hp vr n wr) (hn : 0 < n) :
    ∃ hb c hp, Tq (fun q => q < w.heap.size) wr (w.heap.size + 1) hb w.heap.size n c hp (fun _ => .slice none 0 0) (fun _ => []) (fun _ => false) 0 0 ∧ Below w.heap.size w wr := by
  rcases h.own.2 with ⟨_, e⟩ | ⟨g, c, cur, rfl, hb, hgg, r1, r2, r3, r4⟩
  · omega
  have lt := h.tlt
  have hpg : ∀ j, j < n → hp j ≠ g := fun j hj e => (h.hs j hj).2.2 (by rw [e]; rfl)
  refine ⟨g, c, hp, ⟨h.box, ⟨(Array.getElem?_eq_some_iff.1 hgg).1, fun j hj => ?_⟩, ⟨r1, r2⟩, ⟨_, h.mp, fun a => .inr ⟨rfl, rfl⟩⟩, fun j hj => ⟨(h.hs j hj).1, ⟨by simp [fl], .inl ⟨rfl, rfl⟩⟩, by simp [Value.ownBlock], by simp⟩, fun j hj k hk hk2 => by simp at hk2, by omega, fun j hj => ?_, h.ne, fun j hj q hq => (by cases hq), ⟨by omega, fun j hj => ?_, fun j hj q hq => (by cases hq)⟩⟩, h.bl⟩
  · have := h.own.cells (g := g) rfl j (.pointer (some ⟨hp j, 0, none⟩)) (by simp [hj])
    by_cases h0 : j = 0
    · subst h0; simpa [Addr.add] using this
    · simpa [Addr.add, h0] using this
  · have := (h.hs j hj).2.1
    exact ⟨by omega, hpg j hj, by omega⟩
  · have := (h.hs j hj).2.1; omega
end
set_option maxHeartbeats 8000000 in
theorem tnew (n : Nat) (hn : 1 ≤ (n : Int)) (hn2 : (n : Int) ≤ 64) (w : World) : Calls Try.prog 5 #[.int .i64 n] w fun e w' => e = .returned (.pointer (some ⟨w.heap.size + 1, 0, none⟩)) ∧
    ∃ hb c hp, Tq (fun q => q < w.heap.size) w' (w.heap.size + 1) hb w.heap.size n c hp (fun _ => .slice none 0 0) (fun _ => []) (fun _ => false) 0 0 ∧ Below w.heap.size w w' := by
  have mk : ∀ T (w : World), (Instr.makeMap T none).run Try.prog w = .ok (.map (some w.heap.size)) (w.alloc (.map #[] 0)) := fun T w => rfl
  have S0 := hid (Nw.start w (fun _ => 0))
  go_enter Try.func5, Try.ntmps5
  go_wp2_with fail
  clear mk
  obtain ⟨t, ht⟩ : ∃ x, x = w.heap.size + 1 := ⟨_, rfl⟩
  have HT := hid ht
  rw [← ht]
  clear ht
  go_loopw [10] (fun x wr => ∃ (i : Nat) (hp : Nat → Nat) (vr : Value), i ≤ n ∧ x = .int .i64 i ∧ Hid (Nw w hp vr i wr)) (fun x _ => n - (intOf x).toNat)
  case atStart => exact ⟨0, _, _, Nat.zero_le _, rfl, S0⟩
  case round =>
    clear S0
    obtain ⟨i, hp, vr, hi, rfl, F⟩ := hrel
    by_cases hlt : i < n
    · obtain ⟨i0, h0, hz0, hz1, hz2⟩ := info_parts infoHp2
      have c0 : wr.cell? ⟨t, 0, none⟩ = some vr := by rw [HT.out]; exact cell_ent F.out.box rfl
      have OWN := hid ((F.out.own.alloc (.cells #[.slice none 0 0] 63)).alloc (.cells #[.pointer (some ⟨wr.heap.size, 0, none⟩)] 61))
      have NB := hid (show ((wr.alloc (.cells #[.slice none 0 0] 63)).alloc (.cells #[.pointer (some ⟨wr.heap.size, 0, none⟩)] 61)).heap[wr.heap.size + 1]? = some (.cells #[.pointer (some ⟨wr.heap.size, 0, none⟩)] 61 (0, 0)) by
        have := Deep.blk_alloc_new (wr.alloc (.cells #[.slice none 0 0] 63)) (.cells #[.pointer (some ⟨wr.heap.size, 0, none⟩)] 61)
        rw [World.size_alloc] at this
        exact this)
      have B1 := hid (show i + 1 ≤ maxLen by unfold maxLen; omega)
      have B2 := hid (show (i + 1) * 8 ≤ 140737488355328 by omega)
      have B3 := hid (show w.heap.size + 2 ≤ ((wr.alloc (.cells #[.slice none 0 0] 63)).alloc (.cells #[.pointer (some ⟨wr.heap.size, 0, none⟩)] 61)).heap.size by
        have h1 := F.out.box
        obtain ⟨hl, _⟩ := Array.getElem?_eq_some_iff.1 h1
        simp; omega)
      go_wp2_with (at_builtin; refine wpList_append_lies _ rfl _ _ 58 rfl (w.heap.size + 2) 61 i0 (.pointer none) 1 8 Try.underlying58 h0 hz0 hz1 hz2 rfl (by decide) vr i _ rfl OWN.out ⟨wr.heap.size + 1, 0, none⟩ 1 1 [.pointer (some ⟨wr.heap.size, 0, none⟩)] rfl rfl (World.news_of_block (cs := #[.pointer (some ⟨wr.heap.size, 0, none⟩)]) (t := 61) (fr := (0, 0)) NB.out) (by simp [Value.oneCell']) (by omega) B1.out B2.out B3.out (wr.heap.size + 2) (by simp) ?_; intro gg cap w4 hown hgrow hat hl4; have F4 := hid (F.out.step hown hgrow hat hl4); obtain ⟨y0, f0⟩ := F.out.keep hgrow; rw [← HT.out] at y0 f0 F4; clear hown hgrow hat hl4 c0)
      go_roundw
      case rel => exact ⟨i + 1, _, _, by omega, by go_num, F4⟩
      case measure => simp [intOf]; omega
    · obtain rfl : i = n := by omega
      go_wp2
      go_ret
      exact ⟨(show Ending.returned (.pointer (some ⟨t, 0, none⟩)) = _ by rw [HT.out]), F.out.fin (by omega)⟩
end Go.Proofs.Ytlppnkemoomllaa
