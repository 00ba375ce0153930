/- Heap.Put, and where its row lies then: for two heaps side by side. -/
import Derived.Test.YtlppnkemoomllaaHeap9
import Derived.Test.YtlppnkemoomllaaHeap8
import Derived.Test.YtlppnkemoomllaaHeapW
import Derived.Test.YtlppnkemoomllaaHeapP
namespace Go.Proofs.Ytlppnkemoomllaa
set_option linter.unusedVariables false
set_option linter.unusedSimpArgs false
open Go.RowKit

theorem put_fin3 {w w4 : World} {base p gg cap n : Nat} {v : Value} {es : List (Int × Int × Int)} {a b c : Int} (h : Hp w base p v es) (hn : es.length = n) (hb : base ≤ w.heap.size) (hl : n < 100000) (o1 o2 : Obj)
    (hown : w4.ownsRow base 37 3 (.slice (some ⟨gg, 0, none⟩) (n + 1) cap) (n + 1) (fl es ++ [.int .i64 a, .int .u64 b, .int .i64 c]))
    (hg : ((w.alloc o1).alloc o2).drew.grownBy w4 v.ownBlock) (hat : v.ownBlock = some gg ∨ gg = w.heap.size + 2) (W : World) (hW : W = w4.setCell ⟨p, 0, none⟩ (.slice (some ⟨gg, 0, none⟩) (n + 1) cap)) :
    Hid (Hs W base p gg (n + 1) cap (es ++ [(a, b, c)]) W ∧ OnlyV p base w W ∧ (∀ w6, OnlyH p gg W w6 → OnlyQ p v w w6) ∧ (v.ownBlock = some gg ∨ w.heap.size ≤ gg)) := by
  obtain ⟨h1, h2⟩ := (put_fin h hn hb hl o1 o2 hown hg hat W hW).out
  refine ⟨h1, h2, fun w6 ho => ⟨Nat.le_trans h2.size ho.size, fun k hk hp hv => ?_⟩, hat.imp id (fun e => by omega)⟩
  have hgk : k ≠ gg := by
    rcases hat with e | e
    · exact fun e2 => hv (by rw [e, e2])
    · omega
  rw [ho.block k (Nat.lt_of_lt_of_le hk h2.size) hgk hp, hW, Below.heap_setCell _ _ _ _ hp, hg.block k (by simp; omega) (fun e => hv e.symm)]
  show ((w.alloc o1).alloc o2).heap[k]? = _
  rw [Below.heap_alloc _ _ _ (by simp; omega), Below.heap_alloc _ _ _ hk]

set_option maxHeartbeats 8000000 in
theorem put_sep (w : World) (base p : Nat) (v : Value) (es : List (Int × Int × Int)) (a b c : Int) (h : Hp w base p v es) (hb : base ≤ w.heap.size) (hl : es.length < 100000) :
    Calls Try.prog 23 #[.pointer (some ⟨p, 0, none⟩), .agg #[.int .i64 a, .int .u64 b, .int .i64 c]] w fun e w' => e = .returned (.tuple #[]) ∧
      ∃ v', Hp w' base p v' (riseF es.length (es ++ [(a, b, c)]) es.length) ∧ OnlyV p base w w' ∧ OnlyQ p v w w' ∧ (∀ q, v'.ownBlock = some q → v.ownBlock = some q ∨ w.heap.size ≤ q) := by
  obtain ⟨n, hn⟩ : ∃ n, es.length = n := ⟨_, rfl⟩
  rw [hn] at hl ⊢
  have hp := h.lt
  have c0 : (w.alloc (.cells #[.int .i64 a, .int .u64 b, .int .i64 c] 37)).cell? ⟨p, 0, none⟩ = some v := cell_ent ((Below.heap_alloc _ _ _ hp).trans h.st) rfl
  have FIN := hid (fun (w4 : World) gg cap => put_fin3 (w4 := w4) (gg := gg) (cap := cap) (a := a) (b := b) (c := c) h hn hb hl (.cells #[.int .i64 a, .int .u64 b, .int .i64 c] 37) (.cells #[.int .i64 a, .int .u64 b, .int .i64 c] 37))
  have OWN := hid (show w.ownsRow base 37 3 v n (fl es) by rw [← hn]; exact h.own)
  have PC := hid (fun (w4 : World) (hg : ((w.alloc (.cells #[.int .i64 a, .int .u64 b, .int .i64 c] 37)).alloc (.cells #[.int .i64 a, .int .u64 b, .int .i64 c] 37)).drew.grownBy w4 v.ownBlock) =>
    (show w4.cell? ⟨p, 0, none⟩ = some v ∧ w4.frozen? ⟨p, 0, none⟩ = false by
      have hvp := h.ne
      have hp4 : w4.heap[p]? = some (.cells #[v] 63 (0, 0)) := by
        rw [hg.block p (by simp; omega) (fun e => hvp e.symm)]
        show ((w.alloc _).alloc _).heap[p]? = _
        rw [Below.heap_alloc _ _ _ (by simp; omega), Below.heap_alloc _ _ _ (by omega)]; exact h.st
      exact ⟨cell_ent hp4 rfl, by simp [World.frozen?, hp4]⟩))
  have B1 := hid (show n + 1 ≤ maxLen by unfold maxLen; omega)
  have B2 := hid (show (n + 1) * 24 ≤ 140737488355328 by omega)
  have HB := hid hb
  have NB := hid (show ((w.alloc (.cells #[.int .i64 a, .int .u64 b, .int .i64 c] 37)).alloc (.cells #[.int .i64 a, .int .u64 b, .int .i64 c] 37)).drew.heap[w.heap.size + 1]? = some (.cells #[.int .i64 a, .int .u64 b, .int .i64 c] 37 (0, 0)) by
    have := heap_alloc_new (w.alloc (.cells #[.int .i64 a, .int .u64 b, .int .i64 c] 37)) (.cells #[.int .i64 a, .int .u64 b, .int .i64 c] 37)
    rw [World.size_alloc] at this
    exact this)
  obtain ⟨i0, hi, hz0, hz1, hz2⟩ := info_parts infoEnt
  clear h
  go_enter Try.func23, Try.ntmps23
  go_wp2_with fail
  go_region_law ((refine step_append_lies _ (by rfl) _ _ _ (by rfl) base 37 i0 _ 3 24 Try.underlying54 hi hz0 hz1 hz2 rfl (by omega) _ n _ (by rfl) ((OWN.out.alloc _).alloc _) ⟨w.heap.size + 1, 0, none⟩ 1 1 [.int .i64 a, .int .u64 b, .int .i64 c] (by rfl) (by rfl) (World.news_of_block (cs := #[.int .i64 a, .int .u64 b, .int .i64 c]) (t := 37) (fr := (0, 0)) NB.out) (by simp [Value.oneCell']) (by omega) B1.out B2.out (by simp; omega) (w.heap.size + 2) (by simp) ?_; intro gg cap w4 hown4 hgrow4 hat4 hlt4; obtain ⟨y0, f0⟩ := PC.out _ hgrow4; have FN := hid (FIN.out _ _ _ hown4 hgrow4 hat4 _ rfl); clear hown4 hgrow4 hat4 hlt4))
  all_goals
    have HS := hid FN.out.1
    have HO := hid FN.out.2.1
    have HQ := hid FN.out.2.2.1
    have HZ := hid FN.out.2.2.2
    clear FN y0 f0 c0 FIN PC NB OWN
    go_wp2_with fail
    refine (HS.out.len).mono ?_
    rintro e w' ⟨rfl, rfl⟩
    go_wp2_with fail
    refine (rise_i _ base p gg (n + 1) cap n _ _ HS.out (by omega) (by omega)).mono ?_
    rintro e w6 ⟨rfl, h6⟩
    have H6 := hid h6
    clear h6
    go_wp2
    try simp only [Exit.noGoto_normal, Exit.noGoto_ret]
    go_end0
    exact ⟨rfl, _, H6.out.hp, HO.out.trans (.of_h H6.out.ho H6.out.ge.1), HQ.out _ H6.out.ho, fun q hq => by cases hq; exact HZ.out⟩
theorem OnlyQ.of_h {p g : Nat} {v : Value} {w w' : World} (h : OnlyH p g w w') (hv : v.ownBlock = some g) : OnlyQ p v w w' :=
  ⟨h.size, fun k h1 h2 h3 => h.block k h1 (fun e => h3 (by rw [hv, e])) h2⟩
/-- Taken from whatever heap there is: what is answered isn't told. -/
def TaPost (base p : Nat) (es : List (Int × Int × Int)) (w : World) (e : Ending) (w' : World) : Prop :=
  ∃ r v' T, e = .returned r ∧ Hp w' base p v' T ∧ OnlyV p base w w' ∧ T.length ≤ es.length
theorem take_any (w : World) (base p : Nat) (v : Value) (es : List (Int × Int × Int)) (h : Hp w base p v es) (hb : base ≤ w.heap.size) (hp : base ≤ p) :
    Calls Try.prog 21 #[.pointer (some ⟨p, 0, none⟩)] w (TaPost base p es w) := by
  rcases Nat.eq_zero_or_pos es.length with h0 | h0
  · obtain rfl : es = [] := List.length_eq_zero_iff.1 h0
    refine (take_none w base p v h).mono ?_
    rintro e w5 ⟨rfl, h5⟩
    exact ⟨_, v, [], rfl, h.below h5, ⟨h5.os, h5.tape, h5.output, h5.size, fun k h1 _ _ => h5.block k h1⟩, Nat.le_refl _⟩
  · obtain ⟨m, hm⟩ : ∃ m, es.length = m + 1 := ⟨es.length - 1, by omega⟩
    obtain ⟨g, c, rfl, hs⟩ := h.hs h0
    rw [hm] at hs
    obtain ⟨y1, y2, y3, hy⟩ : ∃ y1 y2 y3, enAt es 0 = (y1, y2, y3) := ⟨_, _, _, rfl⟩
    obtain ⟨hg1, hg2, hg3⟩ := hs.ge
    refine (take_some w base p g m c es hs y1 y2 y3 hy).mono ?_
    rintro e w5 ⟨rfl, h5⟩
    refine ⟨_, _, _, rfl, h5.hp, OnlyV.of_h h5.ho hg1, ?_⟩
    rw [sink_len, List.length_take, sw_len]
    omega
end Go.Proofs.Ytlppnkemoomllaa
