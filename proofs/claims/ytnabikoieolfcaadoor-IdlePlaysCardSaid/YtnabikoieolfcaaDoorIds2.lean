/- An Idle as a whole: New, and what each deed on processors answers and leaves. -/
import Derived.Test.YtnabikoieolfcaaDoorIds
namespace Go.Proofs.YtnabikoieolfcaaDoor
set_option linter.unusedVariables false
set_option linter.unusedSimpArgs false
open Go.RowKit

variable {Z : Nat → Prop} {w : World} {x np : Nat} {f : Nat → Bool} {pd : List Int} {N : Int} {ss : List Int} {pl : Int}
set_option maxHeartbeats 1000000 in
theorem countP_any (h : Ids Z x np f pd N ss pl w) : Calls Tryd.prog 9 #[.pointer (some ⟨x, 0, none⟩)] w fun e w' => e = .returned (.int .i64 (card f np)) ∧ w = w' := by
  obtain ⟨mx, my, r, rp, W, pv, h0, rfl⟩ := h.h
  have k0 := h0.k0
  have C := hid (mcount_any mx my np W w h0.m)
  clear h h0
  go_enter Tryd.func9, Tryd.ntmps9
  go_wp2_with fail
  refine C.out.mono ?_
  rintro e w2 ⟨rfl, rfl⟩
  go_wp2
  go_ret
  exact ⟨rfl, rfl⟩
set_option maxHeartbeats 1000000 in
theorem pending_any (h : Ids Z x np f pd N ss pl w) : Calls Tryd.prog 10 #[.pointer (some ⟨x, 0, none⟩)] w fun e w' => e = .returned (.int .i64 pd.length) ∧ w = w' := by
  obtain ⟨mx, my, r, rp, W, pv, h0, rfl⟩ := h.h
  have k1 := h0.k1
  obtain ⟨a, c, rfl⟩ := h0.p.slice
  clear h h0
  go_enter Tryd.func10, Tryd.ntmps10
  go_wp2
  go_ret
  exact ⟨rfl, rfl⟩
/-- Is a processor idle? -/
def inF (f : Nat → Bool) (np : Nat) (i : Int) : Bool := decide (0 ≤ i ∧ i < np) && f i.toNat
theorem inF_out {f : Nat → Bool} {np : Nat} {i : Int} (h : i < 0 ∨ (np : Int) ≤ i) : inF f np i = false := by
  simp only [inF]; rw [decide_eq_false (by omega)]; rfl
theorem inF_in {f : Nat → Bool} {np : Nat} {k : Nat} (h : k < np) : inF f np (k : Int) = f k := by
  simp only [inF]; rw [decide_eq_true (by omega)]; simp
theorem mhas_any (mx my np : Nat) (W : List Nat) (i : Int) (w : World) (hm : Msk w mx my np W) :
    Calls Tryd.prog 31 #[.pointer (some ⟨mx, 0, none⟩), .int .i64 i] w fun e w' => e = .returned (.bool (inF (bitAt W) np i)) ∧ Quiet w w' := by
  by_cases h : i < 0 ∨ (np : Int) ≤ i
  · rw [inF_out h]
    exact (has_out mx my np W i w hm h).mono fun e w' ⟨he, hw⟩ => ⟨he, .of_eq hw⟩
  · obtain ⟨k, rfl⟩ : ∃ k : Nat, i = k := ⟨i.toNat, by omega⟩
    rw [inF_in (by omega)]
    exact has_in mx my np W k _ w hm (by omega) rfl
set_option maxHeartbeats 1000000 in
theorem hasP_any (h : Ids Z x np f pd N ss pl w) (i : Int) : Calls Tryd.prog 12 #[.pointer (some ⟨x, 0, none⟩), .int .i64 i] w fun e w' => e = .returned (.bool (inF f np i)) ∧ Quiet w w' := by
  obtain ⟨mx, my, r, rp, W, pv, h0, rfl⟩ := h.h
  have k0 := h0.k0
  have C := hid (mhas_any mx my np W i w h0.m)
  clear h h0
  go_enter Tryd.func12, Tryd.ntmps12
  go_wp2_with fail
  refine C.out.mono ?_
  rintro e w2 ⟨rfl, hq⟩
  have HQ := hid hq
  clear hq
  go_wp2
  go_ret
  exact ⟨rfl, HQ.out⟩

/-- Put, where nothing is turned. -/
theorem mput_no (mx my np : Nat) (W : List Nat) (i : Int) (w : World) (hm : Msk w mx my np W) (h : (i < 0 ∨ (np : Int) ≤ i) ∨ inF (bitAt W) np i = true) :
    Calls Tryd.prog 34 #[.pointer (some ⟨mx, 0, none⟩), .int .i64 i] w fun e w' => e = .returned (.bool false) ∧ Quiet w w' := by
  by_cases h1 : i < 0 ∨ (np : Int) ≤ i
  · exact (put_out mx my np W i w hm h1).mono fun e w' ⟨he, hw⟩ => ⟨he, .of_eq hw⟩
  · obtain ⟨k, rfl⟩ : ∃ k : Nat, i = k := ⟨i.toNat, by omega⟩
    rcases h with h | h
    · omega
    · rw [inF_in (by omega)] at h
      exact put_no mx my np W k w hm (by omega) h
set_option maxHeartbeats 2000000 in
theorem putP_has (h : Ids Z x np f pd N ss pl w) (i : Int) (hi : hasB i pd = true) (hl : pd.length ≤ 100000) : Calls Tryd.prog 19 #[.pointer (some ⟨x, 0, none⟩), .int .i64 i] w (DPost (.bool false) Z x np f pd N ss pl w) := by
  obtain ⟨mx, my, r, rp, W, pv, h0, hf⟩ := h.h
  have k1 := h0.k1
  have C := hid (contains_any pv pd i w h0.p.reads (by omega))
  rw [hi] at C
  obtain ⟨a, c, rfl⟩ := h0.p.reads_n (n := pd.length) rfl
  have FIN := hid (fun w' q => h.quiet (w' := w') q)
  obtain ⟨n, hn⟩ : ∃ n, n = pd.length := ⟨_, rfl⟩
  rw [← hn] at k1 C
  clear h h0 hi hf hn hl
  go_enter Tryd.func19, Tryd.ntmps19
  go_wp2_with fail
  refine C.out.mono ?_
  rintro e w2 ⟨rfl, hq⟩
  have HQ := hid hq
  clear hq
  go_wp2
  go_ret
  exact ⟨rfl, FIN.out _ HQ.out, .of_quiet HQ.out⟩
set_option maxHeartbeats 2000000 in
theorem putP_no (h : Ids Z x np f pd N ss pl w) (i : Int) (hi : hasB i pd = false) (hl : pd.length ≤ 100000) (hx : (i < 0 ∨ (np : Int) ≤ i) ∨ inF f np i = true) : Calls Tryd.prog 19 #[.pointer (some ⟨x, 0, none⟩), .int .i64 i] w (DPost (.bool false) Z x np f pd N ss pl w) := by
  obtain ⟨mx, my, r, rp, W, pv, h0, rfl⟩ := h.h
  have k1 := h0.k1
  have C := hid (contains_any pv pd i w h0.p.reads (by omega))
  rw [hi] at C
  obtain ⟨a, c, rfl⟩ := h0.p.reads_n (n := pd.length) rfl
  have FIN := hid (fun w' q => h.quiet (w' := w') q)
  have H0 := hid h0
  have PT := hid (fun w' hm => mput_no mx my np W i w' hm hx)
  obtain ⟨n, hn⟩ : ∃ n, n = pd.length := ⟨_, rfl⟩
  rw [← hn] at k1 C
  clear h h0 hi hn hl hx
  go_enter Tryd.func19, Tryd.ntmps19
  go_wp2_with fail
  refine C.out.mono ?_
  rintro e w2 ⟨rfl, hq⟩
  have HQ := hid hq
  have H2 := hid (H0.out.quiet hq)
  have k0 := H2.out.k0
  clear hq
  go_wp2_with fail
  refine (PT.out _ H2.out.m).mono ?_
  rintro e w3 ⟨rfl, hq⟩
  have HQ3 := hid (HQ.out.trans hq)
  clear hq
  go_wp2
  go_ret
  exact ⟨rfl, FIN.out _ HQ3.out, .of_quiet HQ3.out⟩
set_option maxHeartbeats 2000000 in
theorem putP_yes (h : Ids Z x np f pd N ss pl w) (k : Nat) (hi : hasB (k : Int) pd = false) (hl : pd.length ≤ 100000) (hk : k < np) (hf : f k = false) : Calls Tryd.prog 19 #[.pointer (some ⟨x, 0, none⟩), .int .i64 k] w (DPost (.bool true) Z x np (upd f k true) pd N ss pl w) := by
  obtain ⟨mx, my, r, rp, W, pv, h0, rfl⟩ := h.h
  have k1 := h0.k1
  have C := hid (contains_any pv pd k w h0.p.reads (by omega))
  rw [hi] at C
  obtain ⟨a, c, rfl⟩ := h0.p.reads_n (n := pd.length) rfl
  have FIN := hid (fun w' q => h.quiet (w' := w') q)
  have H0 := hid h0
  have PT := hid (fun w' hm => put_yes mx my np W k w' hm hk hf)
  obtain ⟨n, hn⟩ : ∃ n, n = pd.length := ⟨_, rfl⟩
  rw [← hn] at k1 C
  clear h h0 hi hn hl hk hf
  go_enter Tryd.func19, Tryd.ntmps19
  go_wp2_with fail
  refine C.out.mono ?_
  rintro e w2 ⟨rfl, hq⟩
  have HQ := hid hq
  have F2 := hid (FIN.out _ hq)
  have H2 := hid (H0.out.quiet hq)
  have k0 := H2.out.k0
  clear hq
  go_wp2_with fail
  refine (PT.out _ H2.out.m).mono ?_
  rintro e w3 ⟨W', rfl, hm3, hb3, ho3⟩
  have F3 := hid (F2.out.liftm H2.out hm3 ho3)
  rw [hb3] at F3
  clear hm3 hb3 ho3
  go_wp2
  go_ret
  exact ⟨rfl, F3.out.1, (Fr.of_quiet HQ.out).trans F3.out.2⟩
set_option maxHeartbeats 2000000 in
theorem takeP_none (h : Ids Z x np f pd N ss pl w) (hf : ∀ i, i < np → f i = false) : Calls Tryd.prog 21 #[.pointer (some ⟨x, 0, none⟩)] w (DPost (.tuple #[.int .i64 0, .bool false]) Z x np f pd N ss pl w) := by
  obtain ⟨mx, my, r, rp, W, pv, h0, rfl⟩ := h.h
  have k0 := h0.k0
  have FI := hid (mfirst_any mx my np W w h0.m h.T)
  rw [next_none (fun i _ hi => hf i hi)] at FI
  have TK := hid (take_out mx my np W (-1) w h0.m (by omega))
  have FIN := hid h
  clear h h0 hf
  go_enter Tryd.func21, Tryd.ntmps21
  go_wp2_with fail
  refine FI.out.mono ?_
  rintro e w2 ⟨rfl, rfl⟩
  go_wp2_with fail
  refine TK.out.mono ?_
  rintro e w2 ⟨rfl, rfl⟩
  go_wp2
  go_ret2
  exact ⟨rfl, FIN.out, .refl _ _⟩
set_option maxHeartbeats 2000000 in
theorem takeP_least (h : Ids Z x np f pd N ss pl w) (k : Nat) (hk : k < np) (hf : f k = true) (hl : ∀ i, i < k → f i = false) : Calls Tryd.prog 21 #[.pointer (some ⟨x, 0, none⟩)] w (DPost (.tuple #[.int .i64 k, .bool true]) Z x np (upd f k false) pd N ss pl w) := by
  obtain ⟨mx, my, r, rp, W, pv, h0, rfl⟩ := h.h
  have k0 := h0.k0
  have FI := hid (mfirst_any mx my np W w h0.m h.T)
  rw [next_some (by omega) hk hf (fun i _ hi => hl i hi)] at FI
  have TK := hid (take_yes mx my np W k w h0.m hk hf)
  have FIN := hid h
  have H0 := hid h0
  clear h h0 hf hl hk
  go_enter Tryd.func21, Tryd.ntmps21
  go_wp2_with fail
  refine FI.out.mono ?_
  rintro e w2 ⟨rfl, rfl⟩
  go_wp2_with fail
  refine TK.out.mono ?_
  rintro e w3 ⟨W', rfl, hm3, hb3, ho3⟩
  have F3 := hid (FIN.out.liftm H0.out hm3 ho3)
  rw [hb3] at F3
  clear hm3 hb3 ho3
  go_wp2
  go_ret2
  exact ⟨rfl, F3.out⟩
end Go.Proofs.YtnabikoieolfcaaDoor
