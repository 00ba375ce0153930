/- Heap.Put, and what it leaves as it was, its row named. -/
import Derived.Test.YtlppnkemoomllaaHeap6
namespace Go.Proofs.Ytlppnkemoomllaa
set_option linter.unusedVariables false
set_option linter.unusedSimpArgs false
open Go.RowKit

/-- Only the heap's struct, its row, new blocks. -/
structure OnlyQ (p : Nat) (v : Value) (w w' : World) : Prop where
  size : w.heap.size ≤ w'.heap.size
  block : ∀ k, k < w.heap.size → k ≠ p → v.ownBlock ≠ some k → w'.heap[k]? = w.heap[k]?
theorem OnlyQ.blk {p k : Nat} {v : Value} {w w' : World} {o : Obj} (h : OnlyQ p v w w') (hk : w.heap[k]? = some o) (h2 : k ≠ p) (h1 : v.ownBlock ≠ some k) : w'.heap[k]? = some o := by
  obtain ⟨hl, _⟩ := Array.getElem?_eq_some_iff.1 hk
  exact (h.block k hl h2 h1).trans hk

theorem Hp.own_lt {w : World} {base p : Nat} {v : Value} {es : List (Int × Int × Int)} (h : Hp w base p v es) : ∀ q, v.ownBlock = some q → base ≤ q ∧ q < w.heap.size := by
  intro q hq
  obtain ⟨_, ⟨h1, h2⟩ | ⟨g, cap, cur, h1, h2, h3, h4⟩⟩ := h.own
  · rw [h1] at hq; cases hq
  · rw [h1] at hq
    simp only [Value.ownBlock, Option.some.injEq] at hq
    subst hq
    exact ⟨h2, by obtain ⟨hl, _⟩ := Array.getElem?_eq_some_iff.1 h3; exact hl⟩
theorem Hp.other {w w' : World} {base p b : Nat} {v : Value} {es : List (Int × Int × Int)} (h : Hp w base p v es) (ho : Only b b w w') (h1 : b ≠ p) (h2 : v.ownBlock ≠ some b) : Hp w' base p v es :=
  h.kept (ho.block _ h.lt (fun e => h1 e.symm) (fun e => h1 e.symm)) (fun q hq => ho.block _ (h.own_lt q hq).2 (fun e => h2 (by rw [hq, e])) (fun e => h2 (by rw [hq, e])))
theorem set3 {w : World} {b : Nat} {t : TypeId} {a0 a1 a2 : Value} (h : w.heap[b]? = some (.cells #[a0, a1, a2] t (0, 0))) (x y z : Value) :
    Hid (Only b b w (((w.setCell ⟨b, 0, none⟩ x).setCell ⟨b, 1, none⟩ y).setCell ⟨b, 2, none⟩ z) ∧ (((w.setCell ⟨b, 0, none⟩ x).setCell ⟨b, 1, none⟩ y).setCell ⟨b, 2, none⟩ z).heap[b]? = some (.cells #[x, y, z] t (0, 0))) := by
  refine ⟨⟨rfl, rfl, rfl, by simp [World.setCell], fun k _ hk _ => ?_⟩, by simp [World.setCell, Array.getElem?_modify, h]⟩
  rw [Below.heap_setCell _ _ _ _ hk, Below.heap_setCell _ _ _ _ hk, Below.heap_setCell _ _ _ _ hk]
theorem put_fin2 {w w4 : World} {base p gg cap n : Nat} {v : Value} {es : List (Int × Int × Int)} {a b c : Int} (h : Hp w base p v es) (hn : es.length = n) (hb : base ≤ w.heap.size) (hl : n < 100000) (o1 o2 : Obj)
    (hown : w4.ownsRow base 37 3 (.slice (some ⟨gg, 0, none⟩) (n + 1) cap) (n + 1) (fl es ++ [.int .i64 a, .int .u64 b, .int .i64 c]))
    (hg : ((w.alloc o1).alloc o2).drew.grownBy w4 v.ownBlock) (hat : v.ownBlock = some gg ∨ gg = w.heap.size + 2) (W : World) (hW : W = w4.setCell ⟨p, 0, none⟩ (.slice (some ⟨gg, 0, none⟩) (n + 1) cap)) :
    Hid (Hs W base p gg (n + 1) cap (es ++ [(a, b, c)]) W ∧ OnlyV p base w W ∧ ∀ w6, OnlyH p gg W w6 → OnlyQ p v w w6) := by
  obtain ⟨h1, h2⟩ := (put_fin h hn hb hl o1 o2 hown hg hat W hW).out
  refine ⟨h1, h2, fun w6 ho => ⟨Nat.le_trans h2.size ho.size, fun k hk hp hv => ?_⟩⟩
  have hgk : k ≠ gg := by
    rcases hat with e | e
    · exact fun e2 => hv (by rw [e, e2])
    · omega
  rw [ho.block k (Nat.lt_of_lt_of_le hk h2.size) hgk hp, hW, Below.heap_setCell _ _ _ _ hp, hg.block k (by simp; omega) (fun e => hv e.symm)]
  show ((w.alloc o1).alloc o2).heap[k]? = _
  rw [Below.heap_alloc _ _ _ (by simp; omega), Below.heap_alloc _ _ _ hk]

set_option maxHeartbeats 8000000 in
theorem put_all (w : World) (base p : Nat) (v : Value) (es : List (Int × Int × Int)) (a b c : Int) (h : Hp w base p v es) (hb : base ≤ w.heap.size) (hl : es.length < 100000) :
    Calls Try.prog 23 #[.pointer (some ⟨p, 0, none⟩), .agg #[.int .i64 a, .int .u64 b, .int .i64 c]] w fun e w' => e = .returned (.tuple #[]) ∧
      ∃ v', Hp w' base p v' (riseF es.length (es ++ [(a, b, c)]) es.length) ∧ OnlyV p base w w' ∧ OnlyQ p v w w' := by
  obtain ⟨n, hn⟩ : ∃ n, es.length = n := ⟨_, rfl⟩
  rw [hn] at hl ⊢
  have hp := h.lt
  have c0 : (w.alloc (.cells #[.int .i64 a, .int .u64 b, .int .i64 c] 37)).cell? ⟨p, 0, none⟩ = some v := cell_ent ((Below.heap_alloc _ _ _ hp).trans h.st) rfl
  have FIN := hid (fun (w4 : World) gg cap => put_fin2 (w4 := w4) (gg := gg) (cap := cap) (a := a) (b := b) (c := c) h hn hb hl (.cells #[.int .i64 a, .int .u64 b, .int .i64 c] 37) (.cells #[.int .i64 a, .int .u64 b, .int .i64 c] 37))
  have OWN := hid (show w.ownsRow base 37 3 v n (fl es) by rw [← hn]; exact h.own)
  have PC := hid (fun (w4 : World) (hg : ((w.alloc (.cells #[.int .i64 a, .int .u64 b, .int .i64 c] 37)).alloc (.cells #[.int .i64 a, .int .u64 b, .int .i64 c] 37)).drew.grownBy w4 v.ownBlock) =>
    (show w4.cell? ⟨p, 0, none⟩ = some v ∧ w4.frozen? ⟨p, 0, none⟩ = false by
      have hvp := h.ne
      have hp4 : w4.heap[p]? = some (.cells #[v] 63 (0, 0)) := by
        rw [hg.block p (by simp; omega) (fun e => hvp e.symm)]
        show ((w.alloc _).alloc _).heap[p]? = _
        rw [Below.heap_alloc _ _ _ (by simp; omega), Below.heap_alloc _ _ _ (by omega)]; exact h.st
      exact ⟨cell_ent hp4 rfl, by simp [World.frozen?, hp4]⟩))
  have B1 := hid (show n + 1 ≤ maxLen by unfold maxLen; omega)
  have B2 := hid (show (n + 1) * 24 ≤ 140737488355328 by omega)
  have HB := hid hb
  have NB := hid (show ((w.alloc (.cells #[.int .i64 a, .int .u64 b, .int .i64 c] 37)).alloc (.cells #[.int .i64 a, .int .u64 b, .int .i64 c] 37)).drew.heap[w.heap.size + 1]? = some (.cells #[.int .i64 a, .int .u64 b, .int .i64 c] 37 (0, 0)) by
    have := heap_alloc_new (w.alloc (.cells #[.int .i64 a, .int .u64 b, .int .i64 c] 37)) (.cells #[.int .i64 a, .int .u64 b, .int .i64 c] 37)
    rw [World.size_alloc] at this
    exact this)
  obtain ⟨i0, hi, hz0, hz1, hz2⟩ := info_parts infoEnt
  clear h
  go_enter Try.func23, Try.ntmps23
  go_wp2_with fail
  go_region_law ((refine step_append_lies _ (by rfl) _ _ _ (by rfl) base 37 i0 _ 3 24 Try.underlying54 hi hz0 hz1 hz2 rfl (by omega) _ n _ (by rfl) ((OWN.out.alloc _).alloc _) ⟨w.heap.size + 1, 0, none⟩ 1 1 [.int .i64 a, .int .u64 b, .int .i64 c] (by rfl) (by rfl) (World.news_of_block (cs := #[.int .i64 a, .int .u64 b, .int .i64 c]) (t := 37) (fr := (0, 0)) NB.out) (by simp [Value.oneCell']) (by omega) B1.out B2.out (by simp; omega) (w.heap.size + 2) (by simp) ?_; intro gg cap w4 hown4 hgrow4 hat4 hlt4; obtain ⟨y0, f0⟩ := PC.out _ hgrow4; have FN := hid (FIN.out _ _ _ hown4 hgrow4 hat4 _ rfl); clear hown4 hgrow4 hat4 hlt4))
  all_goals
    have HS := hid FN.out.1
    have HO := hid FN.out.2.1
    have HQ := hid FN.out.2.2
    clear FN y0 f0 c0 FIN PC NB OWN
    go_wp2_with fail
    refine (HS.out.len).mono ?_
    rintro e w' ⟨rfl, rfl⟩
    go_wp2_with fail
    refine (rise_i _ base p gg (n + 1) cap n _ _ HS.out (by omega) (by omega)).mono ?_
    rintro e w6 ⟨rfl, h6⟩
    have H6 := hid h6
    clear h6
    go_wp2
    try simp only [Exit.noGoto_normal, Exit.noGoto_ret]
    go_end0
    exact ⟨rfl, _, H6.out.hp, HO.out.trans (.of_h H6.out.ho H6.out.ge.1), HQ.out _ H6.out.ho⟩
end Go.Proofs.Ytlppnkemoomllaa
