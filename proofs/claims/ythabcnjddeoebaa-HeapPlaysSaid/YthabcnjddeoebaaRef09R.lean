/- The document's row of entries: Remove. -/
import Derived.Test.YthabcnjddeoebaaHeapG
import Derived.Test.YthabcnjddeoebaaHeapU
namespace Go.Proofs.Ythabcnjddeoebaa
set_option linter.unusedVariables false
set_option linter.unusedSimpArgs false
open Go.RowKit

theorem rest_snoc (g : Int) (l : List (Int × Int × Int)) (x : Int × Int × Int) : rest g (l ++ [x]) = rest g l ++ if x.2.2 = g then [] else [x] := by
  by_cases h : x.2.2 = g <;> simp [rest, isG, h]
def RrPost (g : Int) (es : List (Int × Int × Int)) (w : World) (x : Ending) (w' : World) : Prop :=
  ∃ (v : Value) (m : Nat), x = .returned (.tuple #[v, .int .i64 m]) ∧ (m : Int) = (es.length - (rest g es).length : Nat) ∧ w'.ownsRow w.heap.size 40 3 v (rest g es).length (fl (rest g es)) ∧ Below w.heap.size w w'
structure Rg9 (w : World) (g : Int) (es : List (Int × Int × Int)) (k : Nat) (v : Value) (out : List (Int × Int × Int)) (wr : World) : Prop where
  own : wr.ownsRow w.heap.size 40 3 v out.length (fl out)
  eq : out = rest g (es.take k)
  bl : Below w.heap.size w wr
theorem Rg9.below {w wr w' : World} {g : Int} {es out : List (Int × Int × Int)} {k : Nat} {v : Value} (h : Rg9 w g es k v out wr) (hb : Below wr.heap.size wr w') : Rg9 w g es k v out w' := by
  refine ⟨?_, h.eq, h.bl.trans (hb.mono h.bl.size)⟩
  obtain ⟨h0, h1 | ⟨q, cap, cur, h1, h2, h3, h4⟩⟩ := h.own
  · exact ⟨h0, .inl h1⟩
  · exact ⟨h0, .inr ⟨q, cap, cur, h1, h2, (hb.block q (by obtain ⟨hl, _⟩ := Array.getElem?_eq_some_iff.1 h3; exact hl)).trans h3, h4⟩⟩
theorem Rg9.app {w wr w' : World} {g : Int} {x : Int × Int × Int} {es out : List (Int × Int × Int)} {k : Nat} {v v' : Value} (h : Rg9 w g es k v out wr) (hk : k < es.length) (hx : enAt es k = x) (hg : x.2.2 ≠ g)
    (hown : w'.ownsRow w.heap.size 40 3 v' (out.length + 1) (fl out ++ [.int .i64 x.1, .int .u64 x.2.1, .int .i64 x.2.2])) (hgr : wr.grownBy w' v.ownBlock) : Rg9 w g es (k + 1) v' (out ++ [x]) w' := by
  have hlt : ∀ q, v.ownBlock = some q → w.heap.size ≤ q := fun q hq => by
    obtain ⟨_, ⟨h1, _⟩ | ⟨q', cap, cur, h1, h2, _⟩⟩ := h.own
    · rw [h1] at hq; cases hq
    · rw [h1] at hq; cases hq; exact h2
  refine ⟨?_, ?_, h.bl.grown hgr h.bl.size (fun q hq => by have := hlt q hq; omega)⟩
  · rw [List.length_append, List.length_singleton, fl_app]
    simpa [fl, ent] using hown
  · rw [Dg.tk1 es k hk, rest_snoc, ← h.eq, hx, if_neg hg]
theorem Rg9.skip {w wr : World} {g : Int} {es out : List (Int × Int × Int)} {k : Nat} {v : Value} (h : Rg9 w g es k v out wr) (hk : k < es.length) (hg : (enAt es k).2.2 = g) : Rg9 w g es (k + 1) v out wr :=
  ⟨h.own, by rw [Dg.tk1 es k hk, rest_snoc, ← h.eq, if_pos hg, List.append_nil], h.bl⟩
theorem Rg9.sl {w wr : World} {g : Int} {es out : List (Int × Int × Int)} {k : Nat} {v : Value} (h : Rg9 w g es k v out wr) : ∃ a c, v = .slice a out.length c := by
  obtain ⟨_, ⟨h1, h2⟩ | ⟨q, cap, cur, h1, _⟩⟩ := h.own
  · exact ⟨none, 0, by rw [h1, h2]⟩
  · exact ⟨_, _, h1⟩
set_option maxHeartbeats 8000000 in
theorem refrem (v0 : Value) (es : List (Int × Int × Int)) (gi : Int) (w : World) (h : Rd3 w v0 es) (hl : es.length ≤ 1000) :
    Calls Try.prog 15 #[v0, .int .i64 gi] w (RrPost gi es w) := by
  obtain ⟨a, c, rfl, hc1, hc2, hrd⟩ := h
  obtain ⟨n, hn⟩ : ∃ n, n = es.length := ⟨_, rfl⟩
  have HN := hid hn
  have HR := hid hrd
  rw [← hn] at hc1 hl ⊢
  clear hrd hn
  have P0 : Hid (Rg9 w gi es 0 (.slice none 0 0) [] w) := ⟨⟨by simp [fl], .inl ⟨rfl, rfl⟩⟩, by simp [rest], Below.refl _ _⟩
  go_enter Try.func15, Try.ntmps15
  go_wp2_with fail
  go_loopw [6, 7, 12] (fun v s i wr => ∃ (k m : Nat) (out : List (Int × Int × Int)), k ≤ n ∧ i = .int .i64 k ∧ s = .int .i64 m ∧ m + out.length = k ∧ Hid (Rg9 w gi es k v out wr))
    (fun _ _ i _ => n - (intOf i).toNat)
  case atStart => exact ⟨0, 0, [], by omega, rfl, rfl, rfl, P0⟩
  case round =>
    clear P0
    obtain ⟨k, m, out, hk, rfl, rfl, hmo, P⟩ := hrel
    obtain ⟨av, cv, rfl⟩ := P.out.sl
    by_cases hlt : k < n
    · obtain ⟨g, off, rfl, hg, hcell⟩ := HR.out (by have := HN.out; omega)
      obtain ⟨q0, q1, q2⟩ := hcell k (by have := HN.out; omega)
      obtain ⟨x1, x2, x3, hx⟩ : ∃ x1 x2 x3, enAt es k = (x1, x2, x3) := ⟨_, _, _, rfl⟩
      rw [hx] at q0 q1 q2
      have hs := P.out.bl.size
      have r0 := (P.out.bl.cell (p := ⟨g, off + k * 3, none⟩) hg).trans q0
      have r1 := (P.out.bl.cell (p := ⟨g, off + k * 3 + 1, none⟩) hg).trans q1
      have r2 := (P.out.bl.cell (p := ⟨g, off + k * 3 + 2, none⟩) hg).trans q2
      have PA := hid (P.out.below ((Below.refl _ _).alloc (Nat.le_refl _) (.cells #[.int .i64 x1, .int .u64 x2, .int .i64 x3] 40)))
      have XB := hid (Deep.blk_alloc_new wr (.cells #[.int .i64 x1, .int .u64 x2, .int .i64 x3] 40))
      have HX := hid hx
      have HM := hid hmo
      have hml : out.length ≤ 1000 := by omega
      have hmm : m ≤ 1000 := by omega
      clear q0 q1 q2 hcell hx hg P hs hmo
      by_cases hxg : x3 = gi
      · have tg : (x3 == gi) = true := by simp [hxg]
        have P5 := hid (PA.out.skip (by have := HN.out; omega) (by rw [HX.out]; exact hxg))
        clear hxg
        go_wp2
        go_roundw
        case rel => exact ⟨k + 1, m + 1, _, by omega, by go_num, by go_num, by have := HM.out; omega, P5⟩
        case measure => simp [intOf]; omega
      · have tg : (x3 == gi) = false := by simp [hxg]
        have HXG := hid hxg
        obtain ⟨i0, hi0, hz0, hz1, hz2⟩ := info_parts infoRef
        have HI := hid hi0
        have y0 : (wr.alloc (.cells #[.int .i64 x1, .int .u64 x2, .int .i64 x3] 40)).cell? ⟨wr.heap.size, 0, none⟩ = some (.int .i64 x1) := cell_ent XB.out rfl
        have y1 : (wr.alloc (.cells #[.int .i64 x1, .int .u64 x2, .int .i64 x3] 40)).cell? ⟨wr.heap.size, 1, none⟩ = some (.int .u64 x2) := cell_ent XB.out rfl
        have y2 : (wr.alloc (.cells #[.int .i64 x1, .int .u64 x2, .int .i64 x3] 40)).cell? ⟨wr.heap.size, 2, none⟩ = some (.int .i64 x3) := cell_ent XB.out rfl
        clear hi0 hxg XB
        go_wp2_with (at_builtin; refine wpList_append_own_at _ rfl _ _ 35 rfl w.heap.size 40 i0 _ 3 24 Try.underlying35 HI.out hz0 hz1 hz2 rfl (by decide) _ _ _ rfl (PA.out.below ((Below.refl _ _).alloc (Nat.le_refl _) _)).own ⟨wr.heap.size + 1, 0, none⟩ 1 1 [.int .i64 x1, .int .u64 x2, .int .i64 x3] rfl rfl ?s1 ?s2 ?s3 ?s4 ?s5 ?_)
        case s2 => first | exact ⟨rfl, rfl, rfl⟩ | (intro u hu; simp at hu; rcases hu with rfl | rfl | rfl <;> rfl)
        case s3 => unfold maxLen; omega
        case s4 => omega
        case s5 => have := PA.out.bl.size; simp at this ⊢; omega
        intro v' w6 hown6 hgrow _ _
        have P6 := hid (Rg9.app (x := (x1, x2, x3)) (PA.out.below ((Below.refl _ _).alloc (Nat.le_refl _) _)) (by have := HN.out; omega) HX.out HXG.out hown6 hgrow)
        clear hown6 hgrow PA
        go_wp2
        go_roundw
        case rel => exact ⟨k + 1, m, _, by omega, by go_num, rfl, by have := HM.out; simp; omega, P6⟩
        case measure => simp [intOf]; omega
    · have hkn : k = es.length := by have := HN.out; omega
      have HO := hid (show out = rest gi es by have := P.out.eq; rwa [hkn, List.take_length] at this)
      have HP := hid P.out.own
      have HB := hid P.out.bl
      have HM := hid (show (m : Int) = (es.length - (rest gi es).length : Nat) by rw [← HO.out]; omega)
      clear hkn P hmo
      go_wp2
      go_ret2
      refine ⟨_, m, rfl, HM.out, ?_, HB.out⟩
      rw [← HO.out]
      exact HP.out
end Go.Proofs.Ythabcnjddeoebaa
