/- Sections, alone on a lock: how the words, the stage, the ticket go; law 18's lock; the chapter's example. -/
import Derived.Test.YtkhkmjldncfbhaaDoorSect
import Derived.Test.YtkhkmjldncfbhaaDoorTabWd
namespace Go.Proofs.YtkhkmjldncfbhaaDoor
set_option linter.unusedVariables false
set_option linter.unusedSimpArgs false
open Go.RowKit

set_option maxHeartbeats 1000000 in
theorem lock18 (w : World) (T : WdTab w) : Calls Tryd.prog 7 #[] w fun e w' => e = .returned (.agg #[.int .i64 2, .int .i64 5]) ∧ Below w.heap.size w w' := by
  have hg := T.lt
  have c0 := T.c0
  have c1 := T.c1
  clear T
  go_enter Tryd.func7, Tryd.ntmps7
  go_wp2
  exact bodyPost_ret (v := .agg #[.int .i64 2, .int .i64 5]) (by simp [results, Tryd.results7, go_sem]) rfl ⟨rfl, (Below.refl _ _).alloc (Nat.le_refl _) _⟩
set_option maxHeartbeats 1000000 in
theorem begin_any (nx sv : Int) (w : World) : Calls Tryd.prog 6 #[.agg #[.int .i64 nx, .int .i64 sv]] w fun e w' => e = .returned (.agg #[.int .i64 nx, .int .i64 sv, .int .i64 0, .int .u64 0, .int .i64 0]) ∧ Below w.heap.size w w' := by
  go_enter Tryd.func6, Tryd.ntmps6
  go_wp2
  exact bodyPost_ret (v := .agg #[.int .i64 nx, .int .i64 sv, .int .i64 0, .int .u64 0, .int .i64 0]) (by simp [results, Tryd.results6, go_sem]) rfl ⟨rfl, ((Below.refl _ _).alloc (Nat.le_refl _) _).alloc (by simp) _⟩

/-- The two words of a lock that one section alone takes from f on, at its stage n. -/
def Nx (f : Int) (n : Nat) : Int := if n = 0 then f else U (f + 1)
def Sx (f : Int) (n : Nat) : Int := if n ≤ 3 then f else U (f + 1)
theorem Nx_inU {f : Int} (h : inU f) (n : Nat) : inU (Nx f n) := by unfold Nx; split; exact h; exact U_inU _
theorem Sx_inU {f : Int} (h : inU f) (n : Nat) : inU (Sx f n) := by unfold Sx; split; exact h; exact U_inU _
theorem set_getD {xs : List Int} {i : Nat} {v : Int} (h : xs.getD i 0 = v) : xs.set i v = xs := by
  apply List.ext_getElem?
  intro j
  rw [List.getElem?_set]
  split
  · rename_i e; subst e
    split
    · rename_i hl; rw [← h, List.getD_eq_getElem?_getD, List.getElem?_eq_getElem hl]; rfl
    · rename_i hl; rw [List.getElem?_eq_none (by omega)]
  · rfl
/-- What a step of a section leaves that is alone on its lock, behind it is at stage n; how often it did: u. -/
def NPost (r : Bool) (s o b g : Nat) (nx sv f : Int) (n : Nat) (u : Int) (xs : List Int) (c : Nat) (w : World) (e : Ending) (w' : World) : Prop :=
  ∃ tk, e = .returned (.bool r) ∧ Sct w' s o nx sv n tk u ∧ tk = f ∧ (∃ c', c' ≤ c + 2 ∧ Mem w' b g ((xs.set nx.toNat (Nx f n)).set sv.toNat (Sx f n)) c') ∧ On3 s o b g w w'
theorem xs_same {xs : List Int} {nx sv f : Int} {n m : Nat} (hn : xs.getD nx.toNat 0 = Nx f n) (hs : xs.getD sv.toNat 0 = Sx f n) (e1 : Nx f n = Nx f m) (e2 : Sx f n = Sx f m) : (xs.set nx.toNat (Nx f m)).set sv.toNat (Sx f m) = xs := by
  rw [set_getD (hn.trans e1), set_getD (hs.trans e2)]
variable {w : World} {s o b g : Nat} {nx sv tk u f : Int} {xs : List Int} {c : Nat}
theorem nstep_0 (dv : Value) (h : Sct w s o nx sv 0 tk u) (hm : Mem w b g xs c) (h1 : s ≠ b) (h2 : s ≠ g) (hc : c < 1000000) (h3 : 0 ≤ nx) (h4 : nx < xs.length) (h5 : 0 ≤ sv) (h6 : sv < xs.length) (hne : nx ≠ sv) (hn : xs.getD nx.toNat 0 = Nx f 0) (hs : xs.getD sv.toNat 0 = Sx f 0) (hf : inU f) :
    Calls Tryd.prog 8 #[.pointer (some ⟨s, o, none⟩), .pointer (some ⟨b, 0, none⟩), dv] w (NPost false s o b g nx sv f 1 u xs c w) := by
  refine (step_take dv h hm h1 h2 (by omega) h3 h4 f hn hf).mono ?_
  rintro e w' ⟨he, h7, h8, h9⟩
  refine ⟨f, he, h7, rfl, ⟨c + 1, by omega, ?_⟩, h9⟩
  have e : ((xs.set nx.toNat (Nx f 1)).set sv.toNat (Sx f 1)) = xs.set nx.toNat (U (f + 1)) := by
    rw [set_getD]; rfl
    rw [getD_set_ne (by omega)]; exact hs
  rw [e]; exact h8
theorem nstep_1 (dv : Value) (h : Sct w s o nx sv 1 f u) (hm : Mem w b g xs c) (h1 : s ≠ b) (h2 : s ≠ g) (hc : c < 1000000) (h5 : 0 ≤ sv) (h6 : sv < xs.length) (hn : xs.getD nx.toNat 0 = Nx f 1) (hs : xs.getD sv.toNat 0 = Sx f 1) (hf : inU f) :
    Calls Tryd.prog 8 #[.pointer (some ⟨s, o, none⟩), .pointer (some ⟨b, 0, none⟩), dv] w (NPost false s o b g nx sv f 2 u xs c w) := by
  refine (step_wait_yes dv h hm h1 h2 (by omega) h5 h6 f hs hf hf (by simp)).mono ?_
  rintro e w' ⟨he, h7, h8, h9⟩
  exact ⟨f, he, h7, rfl, ⟨c + 1, by omega, by rw [xs_same (m := 2) hn hs rfl rfl]; exact h8⟩, h9⟩
theorem nstep_3 (dv : Value) (h : Sct w s o nx sv 3 f u) (hm : Mem w b g xs c) (h1 : s ≠ b) (h2 : s ≠ g) (hc : c < 1000000) (h5 : 0 ≤ sv) (h6 : sv < xs.length) (hn : xs.getD nx.toNat 0 = Nx f 3) (hs : xs.getD sv.toNat 0 = Sx f 3) (hf : inU f) :
    Calls Tryd.prog 8 #[.pointer (some ⟨s, o, none⟩), .pointer (some ⟨b, 0, none⟩), dv] w (NPost true s o b g nx sv f 4 u xs c w) := by
  refine (step_free dv h hm h1 h2 (by omega) h5 h6 hs hf).mono ?_
  rintro e w' ⟨he, h7, h8, h9⟩
  refine ⟨f, he, h7, rfl, ⟨c + 2, by omega, ?_⟩, h9⟩
  rw [set_getD (v := Nx f 4) (hn.trans rfl)]; exact h8
theorem nstep_4 (dv : Value) (h : Sct w s o nx sv 4 f u) (hm : Mem w b g xs c) (hn : xs.getD nx.toNat 0 = Nx f 4) (hs : xs.getD sv.toNat 0 = Sx f 4) :
    Calls Tryd.prog 8 #[.pointer (some ⟨s, o, none⟩), .pointer (some ⟨b, 0, none⟩), dv] w (NPost true s o b g nx sv f 4 u xs c w) := by
  refine (step_over dv h hm).mono ?_
  rintro e w' ⟨he, rfl⟩
  exact ⟨f, he, h, rfl, ⟨c, by omega, by rw [xs_same (m := 4) hn hs rfl rfl]; exact hm⟩, On3.refl _ _ _ _ _⟩
/-- Do, by nil: it did once. -/
theorem nstep_2 (h : Sct w s o nx sv 2 f 0) (hm : Mem w b g xs c) (h1 : s ≠ b) (h2 : s ≠ g) (hn : xs.getD nx.toNat 0 = Nx f 2) (hs : xs.getD sv.toNat 0 = Sx f 2) :
    Calls Tryd.prog 8 #[.pointer (some ⟨s, o, none⟩), .pointer (some ⟨b, 0, none⟩), .nilFunc] w (NPost false s o b g nx sv f 3 1 xs c w) := by
  refine (step_do .nilFunc false (fun w' => Below w.heap.size w w') h (goes_nil 0 w) (fun w1 hb => h.kept (hb.block _ h.lt)) (by omega) (by omega)).mono ?_
  rintro e w' ⟨w1, hb, he, rfl⟩
  simp only [Bool.false_eq_true, if_false]
  have h1' := h.kept (hb.block _ h.lt)
  have hs' := h.lt
  have ho : On3 s o b g w w1 := On3.of_only (Only.of_below hb) hs' h1 h2
  exact ⟨f, he, (h1'.stage 3).times 1, rfl, ⟨c, by omega, by rw [xs_same (m := 3) hn hs rfl rfl]; exact mem_set (mem_set (hm.below hb hm.sb hm.sg) h1 h2) h1 h2⟩, ho.trans ((On3.set w1 _ _ (by omega)).trans (On3.set _ _ _ (by omega)))⟩
/-- A nil section's step, whichever its stage is. -/
theorem nstep (n : Nat) (hn5 : n ≤ 4) (h : Sct w s o nx sv n tk (if n ≤ 2 then 0 else 1)) (ht : 1 ≤ n → tk = f) (hm : Mem w b g xs c) (h1 : s ≠ b) (h2 : s ≠ g) (hc : c < 1000000) (h3 : 0 ≤ nx) (h4 : nx < xs.length) (h5 : 0 ≤ sv) (h6 : sv < xs.length) (hne : nx ≠ sv) (hn : xs.getD nx.toNat 0 = Nx f n) (hs : xs.getD sv.toNat 0 = Sx f n) (hf : inU f) (m : Nat) (hmn : m = min (n + 1) 4) (r : Bool) (hr : r = decide (3 ≤ n)) :
    Calls Tryd.prog 8 #[.pointer (some ⟨s, o, none⟩), .pointer (some ⟨b, 0, none⟩), .nilFunc] w (NPost r s o b g nx sv f m (if m ≤ 2 then 0 else 1) xs c w) := by
  subst hmn; subst hr
  match n, hn5 with
  | 0, _ => exact nstep_0 .nilFunc h hm h1 h2 hc h3 h4 h5 h6 hne hn hs hf
  | 1, _ => obtain rfl := ht (by omega); exact nstep_1 .nilFunc h hm h1 h2 hc h5 h6 hn hs hf
  | 2, _ => obtain rfl := ht (by omega); exact nstep_2 h hm h1 h2 hn hs
  | 3, _ => obtain rfl := ht (by omega); exact nstep_3 .nilFunc h hm h1 h2 hc h5 h6 hn hs hf
  | 4, _ => obtain rfl := ht (by omega); exact nstep_4 .nilFunc h hm hn hs
/-- A nil section, alone on its lock, at stage n. -/
structure Al (w : World) (s : Nat) (nx sv f : Int) (n : Nat) (xs : List Int) : Prop where
  c : ∃ tk, Sct w s 0 nx sv n tk (if n ≤ 2 then 0 else 1) ∧ (1 ≤ n → tk = f)
  n4 : n ≤ 4
  hn : xs.getD nx.toNat 0 = Nx f n
  hs : xs.getD sv.toNat 0 = Sx f n
theorem Al.kept {w w' : World} {s : Nat} {nx sv f : Int} {n : Nat} {xs xs' : List Int} (h : Al w s nx sv f n xs) (e : w'.heap[s]? = w.heap[s]?) (h1 : xs'.getD nx.toNat 0 = xs.getD nx.toNat 0) (h2 : xs'.getD sv.toNat 0 = xs.getD sv.toNat 0) : Al w' s nx sv f n xs' := by
  obtain ⟨tk, h3, h4⟩ := h.c
  exact ⟨⟨tk, h3.kept e, h4⟩, h.n4, h1.trans h.hn, h2.trans h.hs⟩
theorem Al.lt {w : World} {s : Nat} {nx sv f : Int} {n : Nat} {xs : List Int} (h : Al w s nx sv f n xs) : s < w.heap.size := by
  obtain ⟨tk, h3, h4⟩ := h.c
  exact h3.lt
theorem Al.tm {w : World} {s : Nat} {nx sv f : Int} {n : Nat} {xs : List Int} (h : Al w s nx sv f n xs) : w.cell? ⟨s, 0 + 4, none⟩ = some (.int .i64 (if n ≤ 2 then 0 else 1)) := by
  obtain ⟨tk, h3, h4⟩ := h.c
  exact h3.c4
theorem Al.st {w : World} {s : Nat} {nx sv f : Int} {n : Nat} {xs : List Int} (h : Al w s nx sv f n xs) : w.cell? ⟨s, 0 + 2, none⟩ = some (.int .i64 n) := by
  obtain ⟨tk, h3, h4⟩ := h.c
  exact h3.c2
/-- The law's own memory of 8 words; nothing else has changed. -/
structure Me (w0 w : World) (b g : Nat) (xs : List Int) (q : Nat) : Prop where
  m : ∃ c, c ≤ q ∧ Mem w b g xs c
  l : xs.length = 8
  B : Below w0.heap.size w0 w
  hb : w0.heap.size ≤ b
  hg : w0.heap.size ≤ g
  T : WdTab w
  t : 0 < w0.heap.size
theorem Me.below {w0 w w' : World} {b g : Nat} {xs : List Int} {q : Nat} (h : Me w0 w b g xs q) (hb : Below w.heap.size w w') : Me w0 w' b g xs q := by
  obtain ⟨c, h1, h2⟩ := h.m
  exact ⟨⟨c, h1, h2.below hb h2.sb h2.sg⟩, h.l, h.B.trans (hb.mono h.B.size), h.hb, h.hg, h.T.at hb, h.t⟩
theorem Me.step {w0 w w' : World} {s o b g : Nat} {xs xs' : List Int} {q c : Nat} (h : Me w0 w b g xs q) (ho : On3 s o b g w w') (hs : w0.heap.size ≤ s) (hm : Mem w' b g xs' c) (hl : xs'.length = 8) (hc : c ≤ q + 2) : Me w0 w' b g xs' (q + 2) :=
  ⟨⟨c, hc, hm⟩, hl, ho.below hs h.hb h.hg h.B h.B.size, h.hb, h.hg, h.T.eq (ho.block _ h.T.lt (by have := h.t; omega) (by have := h.t; have := h.hb; omega) (by have := h.t; have := h.hg; omega)), h.t⟩
theorem Me.ge {w0 w : World} {b g : Nat} {xs : List Int} {q : Nat} (h : Me w0 w b g xs q) : w0.heap.size ≤ w.heap.size := h.B.size
/-- What a nil section's step leaves. -/
def ANext (w0 : World) (s b g : Nat) (nx sv f : Int) (n : Nat) (xs : List Int) (q : Nat) (w : World) (e : Ending) (w' : World) : Prop :=
  ∃ xs', e = .returned (.bool (decide (3 ≤ n))) ∧ Al w' s nx sv f (min (n + 1) 4) xs' ∧ Me w0 w' b g xs' (q + 2) ∧ (∀ j, j ≠ nx.toNat → j ≠ sv.toNat → xs'.getD j 0 = xs.getD j 0) ∧ On3 s 0 b g w w'
theorem astep {w0 : World} {n q : Nat} (h : Al w s nx sv f n xs) (hm : Me w0 w b g xs q) (hsw : w0.heap.size ≤ s) (h1 : s ≠ b) (h2 : s ≠ g) (hq : q < 1000000) (h3 : 0 ≤ nx) (h4 : nx < 8) (h5 : 0 ≤ sv) (h6 : sv < 8) (hne : nx ≠ sv) (hf : inU f) :
    Calls Tryd.prog 8 #[.pointer (some ⟨s, 0, none⟩), .pointer (some ⟨b, 0, none⟩), .nilFunc] w (ANext w0 s b g nx sv f n xs q w) := by
  obtain ⟨tk, hsc, htk⟩ := h.c
  obtain ⟨c, hc, hmem⟩ := hm.m
  refine (nstep n h.n4 hsc htk hmem h1 h2 (by omega) h3 (by have := hm.l; omega) h5 (by have := hm.l; omega) hne h.hn h.hs hf (min (n + 1) 4) rfl (decide (3 ≤ n)) rfl).mono ?_
  rintro e w' ⟨tk', he, hs', rfl, ⟨c', hc', hm'⟩, ho⟩
  refine ⟨_, he, ⟨⟨tk', hs', fun _ => rfl⟩, by omega, ?_, ?_⟩, hm.step ho hsw hm' (by simp [hm.l]) (by omega), fun j j1 j2 => ?_, ho⟩
  · rw [getD_set_ne (by omega), getD_set_eq (by have := hm.l; omega)]
  · rw [getD_set_eq (by simp [hm.l]; omega)]
  · rw [getD_set_ne (Ne.symm j2), getD_set_ne (Ne.symm j1)]
/-- A fresh one. -/
theorem al_new {w0 w w1 w2 : World} {nx sv f : Int} {q : Nat} (hm : Me w0 w b g xs q) (h1 : Below w.heap.size w w1) (h2 : w2 = w1.alloc (.cells #[.int .i64 nx, .int .i64 sv, .int .i64 0, .int .u64 0, .int .i64 0] 30)) (hn : xs.getD nx.toNat 0 = f) (hs : xs.getD sv.toNat 0 = f) :
    Al w2 w1.heap.size nx sv f 0 xs ∧ Me w0 w2 b g xs q ∧ w1.heap.size ≠ b ∧ w1.heap.size ≠ g ∧ w0.heap.size ≤ w1.heap.size ∧ Below w.heap.size w w2 := by
  subst h2
  have hb : w1.heap[w1.heap.size]? = none := by simp
  have hblk := Deep.blk_alloc_new w1 (.cells #[.int .i64 nx, .int .i64 sv, .int .i64 0, .int .u64 0, .int .i64 0] 30)
  have hB : Below w.heap.size w (w1.alloc (.cells #[.int .i64 nx, .int .i64 sv, .int .i64 0, .int .u64 0, .int .i64 0] 30)) := h1.alloc h1.size _
  obtain ⟨c, hc, hmem⟩ := hm.m
  have s1 := hmem.sb
  have s2 := hmem.sg
  have s3 := h1.size
  refine ⟨⟨⟨0, ⟨cell_of_blk (i := 0) hblk rfl, cell_of_blk (i := 0 + 1) hblk rfl, cell_of_blk (i := 0 + 2) hblk rfl, cell_of_blk (i := 0 + 3) hblk rfl, cell_of_blk (i := 0 + 4) hblk rfl, fun i => free_of_blk hblk⟩, fun h => by omega⟩, by omega, hn, hs⟩, hm.below hB, by omega, by omega, Nat.le_trans hm.B.size s3, hB⟩

set_option maxHeartbeats 4000000 in
theorem lives18 (w : World) (T : WdTab w) : Calls Tryd.prog 4 #[] w fun e w' => e = .returned (.bool true) ∧ Below w.heap.size w w' := by
  have HT := hid T
  clear T
  go_enter Tryd.func4, Tryd.ntmps4
  go_wp2_with fail
  refine (new_z 8 8 rfl _).mono ?_
  rintro e w1 ⟨b, g, xs, rfl, hm1, hl1, hz1, hb1, hg1, hB1⟩
  have M1 := hid (show Me w w1 b g xs 0 from ⟨⟨0, by omega, hm1⟩, hl1, hB1, hb1, hg1, HT.out.at hB1, HT.out.lt⟩)
  have HZ := hid hz1
  clear hm1 hl1 hz1 hb1 hg1 hB1
  go_wp2_with fail
  refine (lock18 _ M1.out.T).mono ?_
  rintro e w2 ⟨rfl, hb2⟩
  have B2 := hid hb2
  clear hb2
  go_wp2_with fail
  refine (begin_any 2 5 _).mono ?_
  rintro e w3 ⟨rfl, hb3⟩
  have B3 := hid (B2.out.trans (hb3.mono B2.out.size))
  clear hb3
  go_wp2_with fail
  obtain ⟨w4, hw4⟩ : ∃ w4, w4 = w3.alloc (.cells #[.int .i64 2, .int .i64 5, .int .i64 0, .int .u64 0, .int .i64 0] 30) := ⟨_, rfl⟩
  obtain ⟨s, hs⟩ : ∃ s, s = w3.heap.size := ⟨_, rfl⟩
  rw [← hw4, ← hs]
  have NEW := hid (al_new M1.out B3.out hw4 (HZ.out _) (HZ.out _))
  rw [← hs] at NEW
  have A0 := hid NEW.out.1
  have M0 := hid NEW.out.2.1
  have HS := hid (⟨NEW.out.2.2.1, NEW.out.2.2.2.1, NEW.out.2.2.2.2.1⟩ : s ≠ b ∧ s ≠ g ∧ w.heap.size ≤ s)
  clear hw4 hs NEW M1 B2 B3 HZ
  go_loopw [3] (fun i wr => ∃ (n q : Nat) (xs : List Int), n ≤ 4 ∧ q ≤ 2 * n ∧ i = .int .i64 n ∧ Hid (Al wr s 2 5 0 n xs) ∧ Hid (Me w wr b g xs q)) (fun i _ => 4 - (intOf i).toNat)
  case atStart => exact ⟨0, 0, xs, by omega, by omega, rfl, A0, M0⟩
  case round =>
    clear A0 M0
    obtain ⟨n, q, xs, hn, hq, rfl, A, M⟩ := hrel
    have c2 := A.out.st
    rw [Nat.zero_add] at c2
    by_cases h4 : n < 4
    · have t1 : ((n : Int) != 4) = true := by rw [bne_iff_ne]; omega
      have t2 : (n : Int) < 9 := by omega
      have ST := hid (astep A.out M.out HS.out.2.2 HS.out.1 HS.out.2.1 (by omega) (by omega) (by omega) (by omega) (by omega) (by omega) (by unfold inU; omega))
      go_wp2_with fail
      refine ST.out.mono ?_
      rintro e w5 ⟨xs', rfl, hA, hM, _, _⟩
      rw [show min (n + 1) 4 = n + 1 by omega] at hA
      have A2 := hid hA
      have M2 := hid hM
      clear hA hM ST c2
      go_wp2
      go_roundw
      case rel => exact ⟨n + 1, q + 2, xs', by omega, by omega, by go_num, A2, M2⟩
      case measure => simp [intOf]; omega
    · obtain rfl : n = 4 := by omega
      go_wp2
      go_ret
      exact ⟨rfl, M.out.B⟩
end Go.Proofs.YtkhkmjldncfbhaaDoor
