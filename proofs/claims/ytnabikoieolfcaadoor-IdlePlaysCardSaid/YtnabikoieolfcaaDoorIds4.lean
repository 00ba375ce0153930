/- An Idle as a whole: TakePending; what each deed on machines answers and leaves. -/
import Derived.Test.YtnabikoieolfcaaDoorIds3
import Derived.Test.YtnabikoieolfcaaDoorIdsN
namespace Go.Proofs.YtnabikoieolfcaaDoor
set_option linter.unusedVariables false
set_option linter.unusedSimpArgs false
open Go.RowKit
variable {Z : Nat → Prop} {w : World} {x np : Nat} {f : Nat → Bool} {pd : List Int} {N : Int} {ss : List Int} {pl : Int}

set_option maxHeartbeats 1000000 in
theorem takePend_none (h : Ids Z x np f [] N ss pl w) : Calls Tryd.prog 25 #[.pointer (some ⟨x, 0, none⟩)] w (DPost (.tuple #[.int .i64 0, .bool false]) Z x np f [] N ss pl w) := by
  obtain ⟨mx, my, r, rp, W, pv, h0, hf⟩ := h.h
  have k1 := h0.k1
  obtain ⟨a, c, rfl⟩ := h0.p.reads_n (show ([] : List Int).length = 0 from rfl)
  have H := hid h
  clear h h0 hf
  go_enter Tryd.func25, Tryd.ntmps25
  go_wp2
  go_ret2
  exact ⟨rfl, H.out, .refl _ _⟩

theorem tpend_fin {m : Int} {mx my g : Nat} {r rp : Option Nat} {W : List Nat} {pv v6 : Value} {w2 : World} (F : Ids Z x np f (m :: pd) N ss pl w) (H : Ids0 w Z x mx my r rp np W pv (m :: pd) N ss pl) (hf : bitAt W = f)
    (hown : Owns w2 0 v6 pd) (hb : v6.ownBlock = some g) (hrp : rp = some g) (ho : Only g g w w2) :
    (w2.cell? ⟨x, 1, none⟩ = some pv ∧ w2.frozen? ⟨x, 1, none⟩ = false) ∧ Ids Z x np f pd N ss pl (w2.setCell ⟨x, 1, none⟩ v6) ∧ Fr Z w (w2.setCell ⟨x, 1, none⟩ v6) := by
  obtain ⟨sv, h1, h2, h3⟩ := H.i.h
  have hx := H.i.lt
  subst hrp
  have hxg : x ≠ g := fun e => H.d5 (by rw [e])
  have h6 : w2.heap[x]? = some (.cells #[.pointer (some ⟨mx, 0, none⟩), pv, .int .i64 N, sv, .int .i64 pl] 45 (0, 0)) := by
    rw [ho.block x hx hxg hxg]; exact h1
  refine ⟨⟨by simp [World.cell?, h6], by simp [World.frozen?, h6]⟩, F.liftp H hf (pv' := v6) ⟨⟨sv, ?_, h2.kept fun k hk => ?_, h3⟩, H.i.ne⟩ ?_ ?_ (fun k hk => .inl (by rw [← hb, hk]))⟩
  · simp [World.setCell, Array.getElem?_modify, h6]
  · have hr : r = some k := by rw [← h3, hk]
    have hkg : k ≠ g := fun e => H.d8 k hr (by rw [e])
    rw [Below.heap_setCell _ _ _ _ (fun e => H.i.ne (by rw [hr, e])), ho.block k (H.rlt hr) hkg hkg]
  · refine hown.kept fun k hk => Below.heap_setCell _ _ _ _ (fun e => ?_)
    rw [hb] at hk; simp only [Option.some.injEq] at hk
    exact hxg (by rw [hk, e])
  · have h26 : OnX x (some g) w w2 := ⟨ho.os, ho.tape, ho.output, ho.size, fun k hk _ h2 => ho.block k hk (fun e => h2 (by rw [e])) (fun e => h2 (by rw [e]))⟩
    exact h26.trans (OnX.set w2 1 _)

set_option maxHeartbeats 2000000 in
theorem takePend_first (m : Int) (h : Ids Z x np f (m :: pd) N ss pl w) : Calls Tryd.prog 25 #[.pointer (some ⟨x, 0, none⟩)] w (DPost (.tuple #[.int .i64 m, .bool true]) Z x np f pd N ss pl w) := by
  obtain ⟨mx, my, r, rp, W, pv, h0, hf⟩ := h.h
  have k1 := h0.k1
  obtain ⟨g, c, cur, hpv, hb, hcap, hcm, hcs, hl⟩ : ∃ g c, ∃ cur : Array Value, pv = .slice (some ⟨g, 0, none⟩) (pd.length + 1) c ∧ w.heap[g]? = some (.cells cur 3 (0, 0)) ∧ pd.length + 1 ≤ c ∧ c ≤ maxLen ∧ cur.size = c ∧ cur.toList.take (pd.length + 1) = (m :: pd).map (Value.int .i64) := by
    obtain ⟨h0, ⟨h1, h2⟩ | ⟨g, c, cur, h1, h2, h3, h4, h5, h6, h7⟩⟩ := h0.p
    · simp at h2
    · refine ⟨g, c, cur, h1, h3, h4, h5, by omega, ?_⟩
      rw [Nat.mul_one] at h7
      exact h7
  obtain ⟨n, hn⟩ : ∃ n, n = pd.length := ⟨_, rfl⟩
  rw [← hn] at hpv hcap hl
  have DEL := hid (del_first g n c m pd w cur hn hb hcs hcm hcap hl)
  have hc0 : w.cell? ⟨g, 0, none⟩ = some (.int .i64 m) := by
    have e : (cur.toList.take (n + 1))[0]? = cur.toList[0]? := by rw [List.getElem?_take, if_pos (by omega)]
    rw [hl] at e
    simp [World.cell?, hb]
    simpa using e.symm
  subst hpv
  have hrp : rp = some g := by rw [← h0.q]; rfl
  have FIN := hid (fun v6 w2 h1 h2 h3 => tpend_fin (v6 := v6) (w2 := w2) h h0 hf h1 h2 hrp h3)
  have hn1 : ((n + 1 : Nat) : Int) = (n : Int) + 1 := by omega
  have t : (((n : Int) + 1) == 0) = false := beq_eq_false_iff_ne.2 (by omega)
  have hp0 : (0 : Int) < (n : Int) + 1 := by omega
  clear h h0 hf hrp hb hcap hcm hcs hl hn
  go_enter Tryd.func25, Tryd.ntmps25
  go_wp2_with fail
  refine DEL.out.mono ?_
  rintro e w2 ⟨v6, rfl, ho6, hb6, hw6⟩
  obtain ⟨⟨k3, g3⟩, hfin⟩ := FIN.out v6 w2 ho6 hb6 hw6
  have HF := hid hfin
  obtain ⟨va6, vm6, vc6, rfl⟩ := ho6.slice3
  clear ho6 hb6 hw6 hfin k1
  go_wp2
  go_ret2
  exact ⟨rfl, HF.out⟩

theorem iStop_first (h : Ids Z x np f pd N ss (-1) w) (m : Int) (h0 : 0 ≤ m) (h1 : m < N) (hs : hasB m ss = false) (hl : ss.length ≤ 100000) : Calls Tryd.prog 14 #[.pointer (some ⟨x, 0, none⟩), .int .i64 m] w (DPost (.tuple #[.bool true, .bool true]) Z x np f pd N ss m w) := by
  obtain ⟨mx, my, r, rp, W, pv, i0, hf⟩ := h.h
  exact (stop_first x r _ _ N ss m w i0.i h0 h1 hs hl).mono fun e w' hp => h.lift i0 hf hp
theorem iStop_more (h : Ids Z x np f pd N ss pl w) (m : Int) (hp : 0 ≤ pl) (hmp : m ≠ pl) (h0 : 0 ≤ m) (h1 : m < N) (hs : hasB m ss = false) (hl : ss.length ≤ 100000) : Calls Tryd.prog 14 #[.pointer (some ⟨x, 0, none⟩), .int .i64 m] w (DPost (.tuple #[.bool false, .bool true]) Z x np f pd N (ss ++ [m]) pl w) := by
  obtain ⟨mx, my, r, rp, W, pv, i0, hf⟩ := h.h
  exact (stop_more x r _ _ N ss pl m w i0.i hp hmp h0 h1 hs hl).mono fun e w' hp => h.lift i0 hf hp
theorem iStop_no (h : Ids Z x np f pd N ss pl w) (m : Int) (h0 : 0 ≤ m) (h1 : m < N) (hs : m = pl ∨ (m ≠ pl ∧ hasB m ss = true)) (hl : ss.length ≤ 100000) : Calls Tryd.prog 14 #[.pointer (some ⟨x, 0, none⟩), .int .i64 m] w (DPost (.tuple #[.bool false, .bool false]) Z x np f pd N ss pl w) := by
  obtain ⟨mx, my, r, rp, W, pv, i0, hf⟩ := h.h
  exact (stop_no x r _ _ N ss pl m w i0.i h0 h1 hs hl).mono fun e w' ⟨he, hq⟩ => ⟨he, h.quiet hq, .of_quiet hq⟩
set_option maxHeartbeats 1000000 in
theorem iStop_out (h : Ids Z x np f pd N ss pl w) (m : Int) (h0 : m < 0 ∨ N ≤ m) : Calls Tryd.prog 14 #[.pointer (some ⟨x, 0, none⟩), .int .i64 m] w (DPost (.tuple #[.bool false, .bool false]) Z x np f pd N ss pl w) := by
  obtain ⟨mx, my, r, rp, W, pv, i0, hf⟩ := h.h
  have c2 := i0.i.c2
  have c4 := i0.i.c4
  have H := hid h
  clear h i0 hf
  by_cases hm : m < 0
  · clear h0
    go_enter Tryd.func14, Tryd.ntmps14
    go_wp2
    go_ret2
    exact ⟨rfl, H.out, .refl _ _⟩
  · have hm0 : 0 ≤ m := by omega
    have hm1 : N ≤ m := by omega
    clear h0 hm
    go_enter Tryd.func14, Tryd.ntmps14
    go_wp2
    go_ret2
    exact ⟨rfl, H.out, .refl _ _⟩
theorem iTakeM_last (m : Int) (h : Ids Z x np f pd N (ss ++ [m]) pl w) (hl : ss.length ≤ 100000) : Calls Tryd.prog 15 #[.pointer (some ⟨x, 0, none⟩)] w (DPost (.tuple #[.int .i64 m, .bool true]) Z x np f pd N ss pl w) := by
  obtain ⟨mx, my, r, rp, W, pv, i0, hf⟩ := h.h
  exact (takeM_last x r _ _ N ss pl m w i0.i hl).mono fun e w' hp => h.lift i0 hf hp
theorem iTakeM_poller (h : Ids Z x np f pd N [] pl w) (hp : 0 ≤ pl) : Calls Tryd.prog 15 #[.pointer (some ⟨x, 0, none⟩)] w (DPost (.tuple #[.int .i64 pl, .bool true]) Z x np f pd N [] (-1) w) := by
  obtain ⟨mx, my, r, rp, W, pv, i0, hf⟩ := h.h
  exact (takeM_poller x r _ _ N pl w i0.i hp).mono fun e w' hp => h.lift i0 hf hp
theorem iTakeM_none (h : Ids Z x np f pd N [] (-1) w) : Calls Tryd.prog 15 #[.pointer (some ⟨x, 0, none⟩)] w (DPost (.tuple #[.int .i64 0, .bool false]) Z x np f pd N [] (-1) w) := by
  obtain ⟨mx, my, r, rp, W, pv, i0, hf⟩ := h.h
  exact (takeM_none x r _ _ N w i0.i).mono fun e w' hp => h.lift i0 hf hp
theorem iCountM (h : Ids Z x np f pd N ss pl w) (n : Nat) (hn : ss.length = n) : Calls Tryd.prog 11 #[.pointer (some ⟨x, 0, none⟩)] w fun e w' => e = .returned (.int .i64 n) ∧ w = w' := by
  obtain ⟨mx, my, r, rp, W, pv, i0, hf⟩ := h.h
  exact countM x r _ _ N ss pl n hn w i0.i
theorem iPoller_no (h : Ids Z x np f pd N ss (-1) w) : Calls Tryd.prog 8 #[.pointer (some ⟨x, 0, none⟩)] w fun e w' => e = .returned (.tuple #[.int .i64 0, .bool false]) ∧ w = w' := by
  obtain ⟨mx, my, r, rp, W, pv, i0, hf⟩ := h.h
  exact poller_no x r _ _ N ss w i0.i
theorem iPoller_yes (h : Ids Z x np f pd N ss pl w) (hp : 0 ≤ pl) : Calls Tryd.prog 8 #[.pointer (some ⟨x, 0, none⟩)] w fun e w' => e = .returned (.tuple #[.int .i64 pl, .bool true]) ∧ w = w' := by
  obtain ⟨mx, my, r, rp, W, pv, i0, hf⟩ := h.h
  exact poller_yes x r _ _ N ss pl w i0.i hp

/-- More blocks; its own ones have stayed. -/
theorem Ids.grow (h : Ids Z x np f pd N ss pl w) {w' : World} (hs : w.heap.size + 1 ≤ w'.heap.size) (hk : ∀ k, ¬ Z k → k < w.heap.size → w'.heap[k]? = w.heap[k]?) (hg : w'.heap[0]? = w.heap[0]?) :
    Ids (fun k => Z k ∨ (w.heap.size ≤ k ∧ k < w'.heap.size)) x np f pd N ss pl w' := by
  obtain ⟨mx, my, r, rp, W, pv, h0, h2⟩ := h.h
  exact ⟨⟨mx, my, r, rp, W, pv, ⟨h0.i.kept (hk _ h0.b1 h0.i.lt) (fun k e => hk k (h0.b4 k e) (h0.rlt e)), h0.p.kept (fun k e => hk k (h0.b5 k (by rw [← h0.q, e])) (owns_lt h0.p e)), h0.q, h0.m.kept (hk _ h0.b2 h0.m.sx) (hk _ h0.b3 h0.m.sy), h0.d1, h0.d2, h0.d3, h0.d4, h0.d5, h0.d6, h0.d7, h0.d8,
    fun e => e.elim h0.b1 (fun e => by have := h0.i.lt; omega), fun e => e.elim h0.b2 (fun e => by have := h0.m.sx; omega), fun e => e.elim h0.b3 (fun e => by have := h0.m.sy; omega),
    fun k hk e => e.elim (h0.b4 k hk) (fun e => by have := h0.rlt hk; omega), fun k hk e => e.elim (h0.b5 k hk) (fun e => by have := h0.plt hk; omega),
    fun k e => e.elim (fun e => by have := h0.zl k e; omega) (fun e => e.2)⟩, h2⟩, h.T.eq hg, .inl h.hz⟩
/-- PutP, whatever it is asked. -/
theorem putP_any (h : Ids Z x np f pd N ss pl w) (i : Int) (hl : pd.length ≤ 100000) : Calls Tryd.prog 19 #[.pointer (some ⟨x, 0, none⟩), .int .i64 i] w fun e w' => ∃ b f', e = .returned (.bool b) ∧ Ids Z x np f' pd N ss pl w' ∧ Fr Z w w' := by
  rcases hp : hasB i pd with _ | _
  · by_cases ho : i < 0 ∨ (np : Int) ≤ i
    · exact (putP_no h i hp hl (.inl ho)).mono fun e w' ⟨a, b, c⟩ => ⟨_, _, a, b, c⟩
    · obtain ⟨k, rfl⟩ : ∃ k : Nat, i = k := ⟨i.toNat, by omega⟩
      rcases hf : f k with _ | _
      · exact (putP_yes h k hp hl (by omega) hf).mono fun e w' ⟨a, b, c⟩ => ⟨_, _, a, b, c⟩
      · exact (putP_no h k hp hl (.inr (by rw [inF_in (by omega)]; exact hf))).mono fun e w' ⟨a, b, c⟩ => ⟨_, _, a, b, c⟩
  · exact (putP_has h i hp hl).mono fun e w' ⟨a, b, c⟩ => ⟨_, _, a, b, c⟩
theorem pend_refused (h : Ids Z x np f pd N ss pl w) (k : Nat) (hk : k < np) (hl : pd.length ≤ 100000) (hx : f k = true ∨ hasB (k : Int) pd = true) : Calls Tryd.prog 23 #[.pointer (some ⟨x, 0, none⟩), .int .i64 k] w (DPost (.bool false) Z x np f pd N ss pl w) := by
  rcases hf : f k with _ | _
  · rcases hx with hx | hx
    · rw [hf] at hx; cases hx
    · exact pend_no h k hl (.inr (.inr ⟨by omega, by omega, by rw [inF_in hk]; exact hf, hx⟩))
  · exact pend_no h k hl (.inr (.inl ⟨by omega, by omega, by rw [inF_in hk]; exact hf⟩))

set_option maxHeartbeats 4000000 in
theorem lives13d (w : World) (T : DbTab w) :
    Calls Tryd.prog 4 #[] w fun e w' => e = .returned (.bool true) ∧ Below w.heap.size w w' := by
  have HT := hid T
  clear T
  go_enter Tryd.func4, Tryd.ntmps4
  go_wp2_with fail
  refine (inew_any 4 4 4 4 (by omega) (by omega) w HT.out).mono ?_
  rintro e w1 ⟨x, rfl, h1, b1⟩
  have H1 := hid h1
  have B1 := hid b1
  clear h1 b1
  go_wp2_with fail
  refine (iStop_first H1.out 2 (by omega) (by omega) (hasB_nil _) (by simp)).mono ?_
  rintro e w2 ⟨rfl, h2, b2⟩
  have H2 := hid h2
  have B2 := hid (b2.low B1.out (fun _ h => h))
  clear h2 b2
  go_wp2_with fail
  refine (iStop_more H2.out 3 (by omega) (by omega) (by omega) (by omega) (hasB_nil _) (by simp)).mono ?_
  rintro e w3 ⟨rfl, h3, b3⟩
  have H3 := hid h3
  have B3 := hid (b3.low B2.out (fun _ h => h))
  clear h3 b3
  go_wp2_with fail
  refine (iTakeM_last 3 H3.out (by simp)).mono ?_
  rintro e w4 ⟨rfl, h4, b4⟩
  have H4 := hid h4
  have B4 := hid (b4.low B3.out (fun _ h => h))
  clear h4 b4
  go_wp2_with fail
  refine (iTakeM_poller H4.out (by omega)).mono ?_
  rintro e w5 ⟨rfl, h5, b5⟩
  have H5 := hid h5
  have B5 := hid (b5.low B4.out (fun _ h => h))
  clear h5 b5
  go_wp2_with fail
  refine (iTakeM_none H5.out).mono ?_
  rintro e w6 ⟨rfl, h6, b6⟩
  have H6 := hid h6
  have B6 := hid (b6.low B5.out (fun _ h => h))
  clear h6 b6
  go_wp2
  go_ret
  exact ⟨rfl, B6.out⟩
end Go.Proofs.YtnabikoieolfcaaDoor
