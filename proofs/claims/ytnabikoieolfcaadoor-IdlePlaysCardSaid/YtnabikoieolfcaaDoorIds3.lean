/- An Idle as a whole: what each deed on pending processors and on machines answers and leaves. -/
import Derived.Test.YtnabikoieolfcaaDoorIds2
namespace Go.Proofs.YtnabikoieolfcaaDoor
set_option linter.unusedVariables false
set_option linter.unusedSimpArgs false
open Go.RowKit
variable {Z : Nat → Prop} {w : World} {x np : Nat} {f : Nat → Bool} {pd : List Int} {N : Int} {ss : List Int} {pl : Int}

set_option maxHeartbeats 2000000 in
theorem pend_no (h : Ids Z x np f pd N ss pl w) (i : Int) (hl : pd.length ≤ 100000) (hx : (i < 0 ∨ (np : Int) ≤ i) ∨ (0 ≤ i ∧ i < (np : Int) ∧ inF f np i = true) ∨ (0 ≤ i ∧ i < (np : Int) ∧ inF f np i = false ∧ hasB i pd = true)) : Calls Tryd.prog 23 #[.pointer (some ⟨x, 0, none⟩), .int .i64 i] w (DPost (.bool false) Z x np f pd N ss pl w) := by
  obtain ⟨mx, my, r, rp, W, pv, h0, hf⟩ := h.h
  have k0 := h0.k0
  have LN := hid (mlen_any mx my np W w h0.m)
  have FIN := hid (fun w' q => h.quiet (w' := w') q)
  have H0 := hid h0
  have HP := hid (hasP_any h i)
  have CO := hid (fun w2 (q : Quiet w w2) => contains_any pv pd i w2 (h0.p.reads.of_below (q.below _)) (by omega))
  rcases hx with (hx | hx) | ⟨h1, h2, h3⟩ | ⟨h1, h2, h3, h4⟩
  · clear h h0 hf hl
    go_enter Tryd.func23, Tryd.ntmps23
    go_wp2
    go_ret
    exact ⟨rfl, FIN.out _ (Quiet.refl _), .refl _ _⟩
  · have h0i : 0 ≤ i := by omega
    clear h h0 hf hl
    go_enter Tryd.func23, Tryd.ntmps23
    go_wp2_with fail
    refine LN.out.mono ?_
    rintro e w2 ⟨rfl, rfl⟩
    go_wp2
    go_ret
    exact ⟨rfl, FIN.out _ (Quiet.refl _), .refl _ _⟩
  · rw [h3] at HP
    clear h h0 hf hl h3
    go_enter Tryd.func23, Tryd.ntmps23
    go_wp2_with fail
    refine LN.out.mono ?_
    rintro e w2 ⟨rfl, rfl⟩
    go_wp2_with fail
    refine HP.out.mono ?_
    rintro e w2 ⟨rfl, hq⟩
    have HQ := hid hq
    clear hq
    go_wp2
    go_ret
    exact ⟨rfl, FIN.out _ HQ.out, .of_quiet HQ.out⟩
  · rw [h3] at HP
    rw [h4] at CO
    obtain ⟨a, c, rfl⟩ := h0.p.reads_n (n := pd.length) rfl
    obtain ⟨n, hn⟩ : ∃ n, n = pd.length := ⟨_, rfl⟩
    rw [← hn] at CO H0
    clear h h0 hf hl h3 h4 hn
    go_enter Tryd.func23, Tryd.ntmps23
    go_wp2_with fail
    refine LN.out.mono ?_
    rintro e w2 ⟨rfl, rfl⟩
    go_wp2_with fail
    refine HP.out.mono ?_
    rintro e w2 ⟨rfl, hq⟩
    have HQ := hid hq
    have H2 := hid (H0.out.quiet hq)
    have k1 := H2.out.k1
    clear hq
    go_wp2_with fail
    refine (CO.out _ HQ.out).mono ?_
    rintro e w3 ⟨rfl, hq⟩
    have HQ3 := hid (HQ.out.trans hq)
    clear hq
    go_wp2
    go_ret
    exact ⟨rfl, FIN.out _ HQ3.out, .of_quiet HQ3.out⟩

theorem pend_fin {mx my : Nat} {r rp : Option Nat} {W : List Nat} {pv v6 : Value} {w2 w6 : World} {m : Int} (F : Ids Z x np f pd N ss pl w2) (H : Ids0 w2 Z x mx my r rp np W pv pd N ss pl) (hf : bitAt W = f)
    (hown : w6.ownsRow 0 3 1 v6 (pd.length + 1) (pd.map (Value.int .i64) ++ [.int .i64 m])) (hg : (w2.alloc (.cells #[.int .i64 m] 3)).grownBy w6 pv.ownBlock) (hat : v6.ownBlock = pv.ownBlock ∨ v6.ownBlock = some (w2.heap.size + 1)) :
    (w6.cell? ⟨x, 1, none⟩ = some pv ∧ w6.frozen? ⟨x, 1, none⟩ = false) ∧ Ids Z x np f (pd ++ [m]) N ss pl (w6.setCell ⟨x, 1, none⟩ v6) ∧ Fr Z w2 (w6.setCell ⟨x, 1, none⟩ v6) := by
  obtain ⟨sv, h1, h2, h3⟩ := H.i.h
  have hx := H.i.lt
  have hkeep : ∀ k, k < w2.heap.size → some k ≠ rp → w6.heap[k]? = w2.heap[k]? := fun k hk hne => by
    rw [hg.block k (by simp; omega) (fun e => hne (by rw [← H.q]; exact e)), Below.heap_alloc _ _ _ hk]
  have h6 : w6.heap[x]? = some (.cells #[.pointer (some ⟨mx, 0, none⟩), pv, .int .i64 N, sv, .int .i64 pl] 45 (0, 0)) := by
    rw [hkeep x hx (fun e => H.d5 e.symm)]; exact h1
  have hfresh : ∀ k, v6.ownBlock = some k → rp = some k ∨ w2.heap.size ≤ k := fun k hk => by
    rcases hat with h | h
    · exact .inl (by rw [← H.q, ← h, hk])
    · rw [h] at hk; simp only [Option.some.injEq] at hk; exact .inr (by omega)
  refine ⟨⟨by simp [World.cell?, h6], by simp [World.frozen?, h6]⟩, F.liftp H hf (pv' := v6) ⟨⟨sv, ?_, h2.kept fun k hk => ?_, h3⟩, H.i.ne⟩ ?_ ?_ hfresh⟩
  · simp [World.setCell, Array.getElem?_modify, h6]
  · have hr : r = some k := by rw [← h3, hk]
    rw [Below.heap_setCell _ _ _ _ (fun e => H.i.ne (by rw [hr, e])), hkeep k (H.rlt hr) (fun e => H.d8 k hr e.symm)]
  · have ho : Owns w6 0 v6 (pd ++ [m]) := by
      unfold Owns
      rw [List.length_append, List.map_append]; exact hown
    refine ho.kept fun k hk => Below.heap_setCell _ _ _ _ (fun e => ?_)
    subst e
    rcases hfresh _ hk with e | e
    · exact H.d5 e
    · omega
  · have h26 : OnX x rp w2 w6 := ⟨hg.os, hg.tape, hg.output, by have := hg.size; simp at this; omega, fun k hk _ h2 => hkeep k hk h2⟩
    exact h26.trans (OnX.set w6 1 _)

set_option maxHeartbeats 4000000 in
theorem pend_yes (h : Ids Z x np f pd N ss pl w) (k : Nat) (hl : pd.length ≤ 100000) (hk : k < np) (hfk : f k = false) (hpk : hasB (k : Int) pd = false) : Calls Tryd.prog 23 #[.pointer (some ⟨x, 0, none⟩), .int .i64 k] w (DPost (.bool true) Z x np f (pd ++ [(k : Int)]) N ss pl w) := by
  obtain ⟨mx, my, r, rp, W, pv, h0, hf⟩ := h.h
  have k0 := h0.k0
  have LN := hid (mlen_any mx my np W w h0.m)
  have HP := hid (hasP_any h k)
  rw [inF_in hk, hfk] at HP
  have CO := hid (fun w2 (q : Quiet w w2) => contains_any pv pd k w2 (h0.p.reads.of_below (q.below _)) (by omega))
  rw [hpk] at CO
  obtain ⟨n, hn⟩ : ∃ n, n = pd.length := ⟨_, rfl⟩
  obtain ⟨a, c, rfl⟩ := h0.p.reads_n hn.symm
  have H := hid h
  have H0 := hid h0
  have HN := hid hn
  have HF := hid hf
  have hki : (k : Int) < np := by omega
  have hk0 : 0 ≤ (k : Int) := by omega
  rw [← hn] at hl
  clear h h0 hf hk hfk hpk hn
  go_enter Tryd.func23, Tryd.ntmps23
  go_wp2_with fail
  refine LN.out.mono ?_
  rintro e w2 ⟨rfl, rfl⟩
  go_wp2_with fail
  refine HP.out.mono ?_
  rintro e w2 ⟨rfl, hq⟩
  have HQ := hid hq
  have H2 := hid (H0.out.quiet hq)
  have k1 := H2.out.k1
  clear hq
  go_wp2_with fail
  refine (CO.out _ HQ.out).mono ?_
  rintro e w3 ⟨rfl, hq⟩
  have HQ3 := hid (HQ.out.trans hq)
  have F3 := hid (H.out.quiet HQ3.out)
  have H3 := hid (H0.out.quiet HQ3.out)
  have d1 := H3.out.k1
  clear hq k1
  have HO := hid (show (w3.alloc (.cells #[.int .i64 k] 3)).ownsRow 0 3 1 (.slice a n c) n (pd.map (Value.int .i64)) by
    have := H3.out.p; unfold Owns at this; rw [← HN.out] at this; exact this.alloc _)
  have B1 := hid (show n + 1 ≤ maxLen by unfold maxLen; omega)
  have B2 := hid (show (n + 1) * 8 ≤ 140737488355328 by omega)
  have B3 := hid (show 0 ≤ (w3.alloc (.cells #[.int .i64 k] 3)).heap.size by omega)
  go_upto_region 3 with (fail)
  obtain ⟨i0, hi, hz0, hz1, hz2⟩ := info_parts infoInt
  have HI := hid hi
  have HZ0 := hid hz0
  have HZ1 := hid hz1
  have HZ2 := hid hz2
  clear hi hz0 hz1 hz2
  go_wp2_with (at_builtin; refine wpList_append_own_at _ rfl _ _ 26 rfl 0 3 i0 (.int .i64 0) 1 8 Tryd.underlying26 HI.out HZ0.out HZ1.out HZ2.out rfl (by decide) _ _ _ rfl HO.out ⟨w3.heap.size, 0, none⟩ 1 1 [.int .i64 k] rfl rfl (cell_one_new _ _ _) (ones_of [(k : Int)]) B1.out B2.out B3.out ?_)
  intro v6 w6 hown6 hgr6 _ hat6
  obtain ⟨⟨k3, g3⟩, hfin⟩ := pend_fin (v6 := v6) (m := (k : Int)) F3.out H3.out HF.out (by rw [← HN.out]; exact hown6) (by rw [H3.out.q]; rw [← H3.out.q]; exact hgr6) (by simpa using hat6)
  have FIN := hid hfin
  obtain ⟨va6, vc6, rfl⟩ : ∃ a c, v6 = .slice a (n + 1) c := by
    obtain ⟨h0, ⟨h1, h2⟩ | ⟨g, cap, cur, h1, _⟩⟩ := hown6
    · omega
    · exact ⟨_, _, h1⟩
  clear hown6 hgr6 hat6 hfin HO
  go_wp2
  go_ret
  exact ⟨rfl, FIN.out.1, (Fr.of_quiet HQ3.out).trans FIN.out.2⟩
end Go.Proofs.YtnabikoieolfcaaDoor
