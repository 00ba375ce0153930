/- Heap.Put as a contract. -/
import Derived.Test.YtlppnkemoomllaaHeap5
import Derived.Deep.RegionLaw
import Derived.Deep.AppendLies
namespace Go.Proofs.Ytlppnkemoomllaa
set_option linter.unusedVariables false
set_option linter.unusedSimpArgs false
open Go.RowKit

theorem infoEnt : (Try.prog.info? 37).map (fun i => (i.zero, i.size, i.bytes)) = some (some (.agg #[.int .i64 0, .int .u64 0, .int .i64 0]), 3, 24) := by kernel_rfl

/-- The change that a heap's deeds make, its row not named: its struct, the call's own blocks, new blocks. -/
structure OnlyV (p : Nat) (base : Nat) (w w' : World) : Prop where
  os : w'.os = w.os
  tape : w'.tape = w.tape
  output : w'.output = w.output
  size : w.heap.size ≤ w'.heap.size
  block : ∀ k, k < w.heap.size → k < base → k ≠ p → w'.heap[k]? = w.heap[k]?
theorem OnlyV.refl {p base : Nat} (w : World) : OnlyV p base w w := ⟨rfl, rfl, rfl, Nat.le_refl _, fun _ _ _ _ => rfl⟩
theorem OnlyV.trans {p base : Nat} {a b c : World} (h : OnlyV p base a b) (k : OnlyV p base b c) : OnlyV p base a c :=
  ⟨k.os.trans h.os, k.tape.trans h.tape, k.output.trans h.output, Nat.le_trans h.size k.size, fun i h1 h2 h3 => (k.block i (Nat.lt_of_lt_of_le h1 h.size) h2 h3).trans (h.block i h1 h2 h3)⟩
theorem OnlyV.of_h {p base g : Nat} {w w' : World} (h : OnlyH p g w w') (hb : base ≤ g) : OnlyV p base w w' := ⟨h.os, h.tape, h.output, h.size, fun k h1 h2 h3 => h.block k h1 (by omega) h3⟩
theorem Hs.ge {w0 w : World} {base p g n c : Nat} {es : List (Int × Int × Int)} (h : Hs w0 base p g n c es w) : base ≤ g ∧ g < w.heap.size ∧ g ≠ p := by
  have hne := h.hp.ne
  obtain ⟨_, ⟨h1, _⟩ | ⟨q, cap, cur, h1, h2, h3, _⟩⟩ := h.hp.own
  · cases h1
  · simp only [Value.slice.injEq, Option.some.injEq, Addr.mk.injEq] at h1
    obtain ⟨⟨rfl, _⟩, _⟩ := h1
    obtain ⟨hl, _⟩ := Array.getElem?_eq_some_iff.1 h3
    exact ⟨h2, hl, fun e => hne (by rw [← e]; rfl)⟩

theorem put_fin {w w4 : World} {base p gg cap n : Nat} {v : Value} {es : List (Int × Int × Int)} {a b c : Int} (h : Hp w base p v es) (hn : es.length = n) (hb : base ≤ w.heap.size) (hl : n < 100000) (o1 o2 : Obj)
    (hown : w4.ownsRow base 37 3 (.slice (some ⟨gg, 0, none⟩) (n + 1) cap) (n + 1) (fl es ++ [.int .i64 a, .int .u64 b, .int .i64 c]))
    (hg : ((w.alloc o1).alloc o2).drew.grownBy w4 v.ownBlock) (hat : v.ownBlock = some gg ∨ gg = w.heap.size + 2) (W : World) (hW : W = w4.setCell ⟨p, 0, none⟩ (.slice (some ⟨gg, 0, none⟩) (n + 1) cap)) :
    Hid (Hs W base p gg (n + 1) cap (es ++ [(a, b, c)]) W ∧ OnlyV p base w W) := by
  subst hW
  have hp := h.lt
  have hvp := h.ne
  have hgp : gg ≠ p := by
    rcases hat with e | e
    · intro e2; exact hvp (by rw [e, e2])
    · omega
  have hsz := hg.size
  have hsz' : w.heap.size + 2 ≤ w4.heap.size := by simpa using hsz
  have hp4 : w4.heap[p]? = some (.cells #[v] 63 (0, 0)) := by
    rw [hg.block p (by simp; omega) (fun e => hvp e.symm)]
    show ((w.alloc o1).alloc o2).heap[p]? = _
    rw [Below.heap_alloc _ _ _ (by simp; omega), Below.heap_alloc _ _ _ (by omega)]; exact h.st
  have e1 : fl (es ++ [(a, b, c)]) = fl es ++ [.int .i64 a, .int .u64 b, .int .i64 c] := by rw [fl_app]; simp [fl, ent]
  obtain ⟨_, ⟨h1, h2⟩ | ⟨q, cap', cur, h1, h2, h3, h4, h5, _⟩⟩ := id hown
  · cases h1
  · simp only [Value.slice.injEq, Option.some.injEq, Addr.mk.injEq] at h1
    obtain ⟨⟨rfl, _⟩, _, rfl⟩ := h1
    refine ⟨⟨⟨?_, ?_, ?_, by simp; omega⟩, by simp [hn], OnlyH.refl _, h4, h5⟩, ?_⟩
    · simp [World.setCell, Array.getElem?_modify, hp4]
    · have := ownsRow_setCell_other hown (a := ⟨p, 0, none⟩) (by simp [Value.ownBlock]; exact hgp) (.slice (some ⟨gg, 0, none⟩) (n + 1) cap)
      rw [← e1] at this
      simpa [hn] using this
    · simp [Value.ownBlock]; exact hgp
    · refine ⟨hg.os, hg.tape, hg.output, by simp [World.setCell]; omega, fun k h1 h2 h3 => ?_⟩
      rw [Below.heap_setCell _ _ _ _ h3, hg.block k (by simp; omega) (fun e => ?_)]
      · show ((w.alloc o1).alloc o2).heap[k]? = _
        rw [Below.heap_alloc _ _ _ (by simp; omega), Below.heap_alloc _ _ _ (by omega)]
      · obtain ⟨_, ⟨g1, _⟩ | ⟨q, _, _, g1, g2, _⟩⟩ := h.own
        · rw [g1] at e; simp [Value.ownBlock] at e
        · rw [g1] at e; simp [Value.ownBlock] at e; omega

theorem rise_i (w : World) (base p g n c k : Nat) (i : Int) (es : List (Int × Int × Int)) (h : Hs w base p g n c es w) (hk : k < n) (hi : i = k) :
    Calls Try.prog 32 #[.pointer (some ⟨p, 0, none⟩), .int .i64 i] w fun e w' => e = .returned (.tuple #[]) ∧ Hs w base p g n c (riseF k es k) w' := by
  subst hi; exact rise_any w base p g n c k es h hk

set_option maxHeartbeats 8000000 in
theorem put_any (w : World) (base p : Nat) (v : Value) (es : List (Int × Int × Int)) (a b c : Int) (h : Hp w base p v es) (hb : base ≤ w.heap.size) (hl : es.length < 100000) :
    Calls Try.prog 23 #[.pointer (some ⟨p, 0, none⟩), .agg #[.int .i64 a, .int .u64 b, .int .i64 c]] w fun e w' => e = .returned (.tuple #[]) ∧
      ∃ v', Hp w' base p v' (riseF es.length (es ++ [(a, b, c)]) es.length) ∧ OnlyV p base w w' := by
  obtain ⟨n, hn⟩ : ∃ n, es.length = n := ⟨_, rfl⟩
  rw [hn] at hl ⊢
  have hp := h.lt
  have c0 : (w.alloc (.cells #[.int .i64 a, .int .u64 b, .int .i64 c] 37)).cell? ⟨p, 0, none⟩ = some v := cell_ent ((Below.heap_alloc _ _ _ hp).trans h.st) rfl
  have FIN := hid (fun (w4 : World) gg cap => put_fin (w4 := w4) (gg := gg) (cap := cap) (a := a) (b := b) (c := c) h hn hb hl (.cells #[.int .i64 a, .int .u64 b, .int .i64 c] 37) (.cells #[.int .i64 a, .int .u64 b, .int .i64 c] 37))
  have OWN := hid (show w.ownsRow base 37 3 v n (fl es) by rw [← hn]; exact h.own)
  have PC := hid (fun (w4 : World) (hg : ((w.alloc (.cells #[.int .i64 a, .int .u64 b, .int .i64 c] 37)).alloc (.cells #[.int .i64 a, .int .u64 b, .int .i64 c] 37)).drew.grownBy w4 v.ownBlock) =>
    (show w4.cell? ⟨p, 0, none⟩ = some v ∧ w4.frozen? ⟨p, 0, none⟩ = false by
      have hvp := h.ne
      have hp4 : w4.heap[p]? = some (.cells #[v] 63 (0, 0)) := by
        rw [hg.block p (by simp; omega) (fun e => hvp e.symm)]
        show ((w.alloc _).alloc _).heap[p]? = _
        rw [Below.heap_alloc _ _ _ (by simp; omega), Below.heap_alloc _ _ _ (by omega)]; exact h.st
      exact ⟨cell_ent hp4 rfl, by simp [World.frozen?, hp4]⟩))
  have B1 := hid (show n + 1 ≤ maxLen by unfold maxLen; omega)
  have B2 := hid (show (n + 1) * 24 ≤ 140737488355328 by omega)
  have HB := hid hb
  have NB := hid (show ((w.alloc (.cells #[.int .i64 a, .int .u64 b, .int .i64 c] 37)).alloc (.cells #[.int .i64 a, .int .u64 b, .int .i64 c] 37)).drew.heap[w.heap.size + 1]? = some (.cells #[.int .i64 a, .int .u64 b, .int .i64 c] 37 (0, 0)) by
    have := heap_alloc_new (w.alloc (.cells #[.int .i64 a, .int .u64 b, .int .i64 c] 37)) (.cells #[.int .i64 a, .int .u64 b, .int .i64 c] 37)
    rw [World.size_alloc] at this
    exact this)
  obtain ⟨i0, hi, hz0, hz1, hz2⟩ := info_parts infoEnt
  clear h
  go_enter Try.func23, Try.ntmps23
  go_wp2_with fail
  go_region_law ((refine step_append_lies _ (by rfl) _ _ _ (by rfl) base 37 i0 _ 3 24 Try.underlying54 hi hz0 hz1 hz2 rfl (by omega) _ n _ (by rfl) ((OWN.out.alloc _).alloc _) ⟨w.heap.size + 1, 0, none⟩ 1 1 [.int .i64 a, .int .u64 b, .int .i64 c] (by rfl) (by rfl) (World.news_of_block (cs := #[.int .i64 a, .int .u64 b, .int .i64 c]) (t := 37) (fr := (0, 0)) NB.out) (by simp [Value.oneCell']) (by omega) B1.out B2.out (by simp; omega) (w.heap.size + 2) (by simp) ?_; intro gg cap w4 hown4 hgrow4 hat4 hlt4; obtain ⟨y0, f0⟩ := PC.out _ hgrow4; have FN := hid (FIN.out _ _ _ hown4 hgrow4 hat4 _ rfl); clear hown4 hgrow4 hat4 hlt4))
  all_goals
    have HS := hid FN.out.1
    have HO := hid FN.out.2
    clear FN y0 f0 c0 FIN PC NB OWN
    go_wp2_with fail
    refine (HS.out.len).mono ?_
    rintro e w' ⟨rfl, rfl⟩
    go_wp2_with fail
    refine (rise_i _ base p gg (n + 1) cap n _ _ HS.out (by omega) (by omega)).mono ?_
    rintro e w6 ⟨rfl, h6⟩
    have H6 := hid h6
    clear h6
    go_wp2
    try simp only [Exit.noGoto_normal, Exit.noGoto_ret]
    go_end0
    exact ⟨rfl, _, H6.out.hp, HO.out.trans (.of_h H6.out.ho H6.out.ge.1)⟩
end Go.Proofs.Ytlppnkemoomllaa
