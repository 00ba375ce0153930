/- Machines that are idle (as XIdle, but the mask and the pending ones are named, and stay): Stop, Leave, Poller, CountM, TakeM. -/
import Derived.Test.YtnabikoieolfcaaDoorHasI
import Derived.Laws.MakeOwn
import Derived.Maps.AppendAt
import Derived.Deep.RegionWith
import Derived.IntWalk
import Derived.Deep.CutRange
namespace Go.Proofs.YtnabikoieolfcaaDoor
set_option linter.unusedVariables false
set_option linter.unusedSimpArgs false
open Go.RowKit

/-- Block x is an Idle of N machines: ss are stopped, pl polls (-1: nobody); the stopped ones' slice lies in block r. -/
structure Idf (w : World) (x : Nat) (r : Option Nat) (mv pv : Value) (N : Int) (ss : List Int) (pl : Int) : Prop where
  h : ∃ sv, w.heap[x]? = some (.cells #[mv, pv, .int .i64 N, sv, .int .i64 pl] 45 (0, 0)) ∧ Owns w 0 sv ss ∧ sv.ownBlock = r
  ne : r ≠ some x
theorem Idf.lt {w : World} {x : Nat} {r : Option Nat} {mv pv : Value} {N : Int} {ss : List Int} {pl : Int} (H : Idf w x r mv pv N ss pl) : x < w.heap.size := by
  obtain ⟨_, h1, _⟩ := H.h
  rw [Array.getElem?_eq_some_iff] at h1; exact h1.1
theorem Idf.c2 {w : World} {x : Nat} {r : Option Nat} {mv pv : Value} {N : Int} {ss : List Int} {pl : Int} (H : Idf w x r mv pv N ss pl) : w.cell? ⟨x, 2, none⟩ = some (.int .i64 N) := by
  obtain ⟨_, h1, _⟩ := H.h
  simp [World.cell?, h1]
theorem Idf.c4 {w : World} {x : Nat} {r : Option Nat} {mv pv : Value} {N : Int} {ss : List Int} {pl : Int} (H : Idf w x r mv pv N ss pl) : w.cell? ⟨x, 4, none⟩ = some (.int .i64 pl) := by
  obtain ⟨_, h1, _⟩ := H.h
  simp [World.cell?, h1]
theorem Idf.frz {w : World} {x : Nat} {r : Option Nat} {mv pv : Value} {N : Int} {ss : List Int} {pl : Int} (H : Idf w x r mv pv N ss pl) (i : Nat) : w.frozen? ⟨x, i, none⟩ = false := by
  obtain ⟨_, h1, _⟩ := H.h
  simp [World.frozen?, h1]
theorem Idf.c3 {w : World} {x : Nat} {r : Option Nat} {mv pv : Value} {N : Int} {ss : List Int} {pl : Int} (H : Idf w x r mv pv N ss pl) : ∃ sv, w.cell? ⟨x, 3, none⟩ = some sv ∧ Owns w 0 sv ss ∧ sv.ownBlock = r := by
  obtain ⟨sv, h1, h2, h3⟩ := H.h
  exact ⟨sv, by simp [World.cell?, h1], h2, h3⟩
theorem Idf.poller {w : World} {x : Nat} {r : Option Nat} {mv pv : Value} {N : Int} {ss : List Int} {pl : Int} (H : Idf w x r mv pv N ss pl) (k : Int) : Idf (w.setCell ⟨x, 4, none⟩ (.int .i64 k)) x r mv pv N ss k := by
  obtain ⟨sv, h1, h2, h3⟩ := H.h
  refine ⟨⟨sv, ?_, h2.kept fun q hq => Below.heap_setCell _ _ _ _ (fun e => H.ne (by rw [← h3, hq, e])), h3⟩, H.ne⟩
  simp [World.setCell, Array.getElem?_modify, h1]
/-- Blocks x and r alone, and new ones. -/
structure OnX (x : Nat) (r : Option Nat) (w w' : World) : Prop where
  os : w'.os = w.os
  tape : w'.tape = w.tape
  output : w'.output = w.output
  size : w.heap.size ≤ w'.heap.size
  block : ∀ k, k < w.heap.size → k ≠ x → some k ≠ r → w'.heap[k]? = w.heap[k]?
theorem OnX.refl (x : Nat) (r : Option Nat) (w : World) : OnX x r w w := ⟨rfl, rfl, rfl, Nat.le_refl _, fun _ _ _ _ => rfl⟩
theorem OnX.set {x : Nat} {r : Option Nat} (w : World) (i : Nat) (v : Value) : OnX x r w (w.setCell ⟨x, i, none⟩ v) := ⟨rfl, rfl, rfl, by simp [World.setCell], fun k _ h1 _ => Below.heap_setCell _ _ _ _ h1⟩
theorem OnX.below {x B : Nat} {r : Option Nat} {w w' : World} (h : OnX x r w w') (hx : B ≤ x) (hr : ∀ k, r = some k → B ≤ k) (hB : B ≤ w.heap.size) : Below B w w' :=
  ⟨h.os, h.tape, h.output, h.size, fun k hk => h.block k (by omega) (by omega) (fun e => by have := hr k e.symm; omega)⟩
theorem OnX.trans {x : Nat} {r : Option Nat} {a b c : World} (h : OnX x r a b) (k : OnX x r b c) : OnX x r a c :=
  ⟨k.os.trans h.os, k.tape.trans h.tape, k.output.trans h.output, Nat.le_trans h.size k.size, fun i hi h1 h2 => (k.block i (Nat.lt_of_lt_of_le hi h.size) h1 h2).trans (h.block i hi h1 h2)⟩
theorem OnX.of_quiet {x : Nat} {r : Option Nat} {w w' : World} (h : Quiet w w') : OnX x r w w' := by
  obtain ⟨n, rfl⟩ := h; exact ⟨rfl, rfl, rfl, Nat.le_refl _, fun _ _ _ _ => rfl⟩
theorem Idf.kept {w w' : World} {x : Nat} {r : Option Nat} {mv pv : Value} {N : Int} {ss : List Int} {pl : Int} (H : Idf w x r mv pv N ss pl) (hx : w'.heap[x]? = w.heap[x]?) (hr : ∀ k, r = some k → w'.heap[k]? = w.heap[k]?) : Idf w' x r mv pv N ss pl := by
  obtain ⟨sv, h1, h2, h3⟩ := H.h
  exact ⟨⟨sv, hx.trans h1, h2.kept (fun k hk => hr k (by rw [← h3, hk])), h3⟩, H.ne⟩
/-- What a deed leaves. -/
def IPost (x : Nat) (r : Option Nat) (mv pv : Value) (v : Value) (N : Int) (ss : List Int) (pl : Int) (w : World) (e : Ending) (w' : World) : Prop :=
  ∃ r', e = .returned v ∧ Idf w' x r' mv pv N ss pl ∧ OnX x r w w' ∧ (r' = r ∨ ∀ k, r' = some k → w.heap.size ≤ k)

set_option maxHeartbeats 1000000 in
theorem poller_no (x : Nat) (r : Option Nat) (mv pv : Value) (N : Int) (ss : List Int) (w : World) (H : Idf w x r mv pv N ss (-1)) :
    Calls Tryd.prog 8 #[.pointer (some ⟨x, 0, none⟩)] w fun e w' => e = .returned (.tuple #[.int .i64 0, .bool false]) ∧ w = w' := by
  have c4 := H.c4
  clear H
  go_enter Tryd.func8, Tryd.ntmps8
  go_wp2
  go_ret2
  exact ⟨rfl, rfl⟩
set_option maxHeartbeats 1000000 in
theorem poller_yes (x : Nat) (r : Option Nat) (mv pv : Value) (N : Int) (ss : List Int) (pl : Int) (w : World) (H : Idf w x r mv pv N ss pl) (h0 : 0 ≤ pl) :
    Calls Tryd.prog 8 #[.pointer (some ⟨x, 0, none⟩)] w fun e w' => e = .returned (.tuple #[.int .i64 pl, .bool true]) ∧ w = w' := by
  have c4 := H.c4
  have t : (pl == -1) = false := beq_eq_false_iff_ne.2 (by omega)
  clear H
  go_enter Tryd.func8, Tryd.ntmps8
  go_wp2
  go_ret2
  exact ⟨rfl, rfl⟩
set_option maxHeartbeats 1000000 in
theorem leave_no (x : Nat) (r : Option Nat) (mv pv : Value) (N : Int) (ss : List Int) (pl m : Int) (w : World) (H : Idf w x r mv pv N ss pl) (h : m = -1 ∨ m ≠ pl) :
    Calls Tryd.prog 27 #[.pointer (some ⟨x, 0, none⟩), .int .i64 m] w fun e w' => e = .returned (.bool false) ∧ w = w' := by
  have c4 := H.c4
  clear H
  by_cases hm : m = -1
  · have t : (m == -1) = true := beq_iff_eq.2 hm
    clear h hm
    go_enter Tryd.func27, Tryd.ntmps27
    go_wp2
    go_ret
    exact ⟨rfl, rfl⟩
  · have t : (m == -1) = false := beq_eq_false_iff_ne.2 hm
    have t2 : (m != pl) = true := by rw [bne_iff_ne]; rcases h with h | h; exact absurd h hm; exact h
    clear h hm
    go_enter Tryd.func27, Tryd.ntmps27
    go_wp2
    go_ret
    exact ⟨rfl, rfl⟩
set_option maxHeartbeats 1000000 in
theorem leave_yes (x : Nat) (r : Option Nat) (mv pv : Value) (N : Int) (ss : List Int) (pl : Int) (w : World) (H : Idf w x r mv pv N ss pl) (h : 0 ≤ pl) :
    Calls Tryd.prog 27 #[.pointer (some ⟨x, 0, none⟩), .int .i64 pl] w (IPost x r mv pv (.bool true) N ss (-1) w) := by
  have c4 := H.c4
  have f4 := H.frz 4
  have FIN : Hid (IPost x r mv pv (.bool true) N ss (-1) w (.returned (.bool true)) (w.setCell ⟨x, 4, none⟩ (.int .i64 (-1)))) := ⟨r, rfl, H.poller (-1), OnX.set w 4 _, .inl rfl⟩
  have t : (pl == -1) = false := beq_eq_false_iff_ne.2 (by omega)
  clear H
  go_enter Tryd.func27, Tryd.ntmps27
  go_wp2
  go_ret
  exact FIN.out
set_option maxHeartbeats 1000000 in
theorem countM (x : Nat) (r : Option Nat) (mv pv : Value) (N : Int) (ss : List Int) (pl : Int) (n : Nat) (hn : ss.length = n) (w : World) (H : Idf w x r mv pv N ss pl) :
    Calls Tryd.prog 11 #[.pointer (some ⟨x, 0, none⟩)] w fun e w' => e = .returned (.int .i64 n) ∧ w = w' := by
  obtain ⟨sv, c3, ho, _⟩ := H.c3
  obtain ⟨a, c, rfl⟩ := ho.reads_n hn
  clear H ho hn
  go_enter Tryd.func11, Tryd.ntmps11
  go_wp2
  go_ret
  exact ⟨rfl, rfl⟩

set_option maxHeartbeats 2000000 in
theorem stop_first (x : Nat) (r : Option Nat) (mv pv : Value) (N : Int) (ss : List Int) (m : Int) (w : World) (H : Idf w x r mv pv N ss (-1)) (h0 : 0 ≤ m) (h1 : m < N) (hs : hasB m ss = false) (hl : ss.length ≤ 100000) :
    Calls Tryd.prog 14 #[.pointer (some ⟨x, 0, none⟩), .int .i64 m] w (IPost x r mv pv (.tuple #[.bool true, .bool true]) N ss m w) := by
  have c2 := H.c2
  have c4 := H.c4
  have f4 := H.frz 4
  obtain ⟨sv, c3, ho, _⟩ := H.c3
  have C := hid (fun w2 (hq : Quiet w w2) => contains_any sv ss m w2 (ho.reads.of_below (hq.below _)) (by omega))
  rw [hs] at C
  obtain ⟨a, sm, c, rfl⟩ := ho.slice3
  have HH := hid H
  have t : (m == -1) = false := beq_eq_false_iff_ne.2 (by omega)
  clear H ho hs
  go_enter Tryd.func14, Tryd.ntmps14
  go_wp2_with fail
  refine (C.out _ (Quiet.refl _)).mono ?_
  rintro e w2 ⟨rfl, hq2⟩
  have H2 := hid (HH.out.kept (w' := w2) (by rw [hq2.heap]) (fun k _ => by rw [hq2.heap]))
  have d4 := H2.out.c4
  have g4 := H2.out.frz 4
  have FIN : Hid (IPost x r mv pv (.tuple #[.bool true, .bool true]) N ss m w (.returned (.tuple #[.bool true, .bool true])) (w2.setCell ⟨x, 4, none⟩ (.int .i64 m))) := ⟨r, rfl, H2.out.poller m, (OnX.of_quiet hq2).trans (OnX.set w2 4 _), .inl rfl⟩
  clear hq2
  go_wp2
  go_ret2
  exact FIN.out

theorem more_fin {x : Nat} {r : Option Nat} {mv pv : Value} {N : Int} {ss : List Int} {pl m : Int} {w w2 w6 : World} {sv v6 : Value} (H : Idf w2 x r mv pv N ss pl) (hq : Quiet w w2) (h3 : w2.cell? ⟨x, 3, none⟩ = some sv) (hr : sv.ownBlock = r)
    (hown : w6.ownsRow 0 3 1 v6 (ss.length + 1) (ss.map (Value.int .i64) ++ [.int .i64 m])) (hg : (w2.alloc (.cells #[.int .i64 m] 3)).grownBy w6 sv.ownBlock) (hat : v6.ownBlock = sv.ownBlock ∨ v6.ownBlock = some (w2.heap.size + 1)) :
    (w6.heap[x]? = some (.cells #[mv, pv, .int .i64 N, sv, .int .i64 pl] 45 (0, 0))) ∧ IPost x r mv pv (.tuple #[.bool false, .bool true]) N (ss ++ [m]) pl w (.returned (.tuple #[.bool false, .bool true])) (w6.setCell ⟨x, 3, none⟩ v6) := by
  obtain ⟨sv', h1, h2, h4⟩ := H.h
  have hx := H.lt
  have e : sv' = sv := by
    simp [World.cell?, h1] at h3; exact h3
  subst e
  have h6 : w6.heap[x]? = some (.cells #[mv, pv, .int .i64 N, sv', .int .i64 pl] 45 (0, 0)) := by
    rw [hg.block x (by simp; omega) (fun e => H.ne (by rw [← h4]; exact e.symm)), Below.heap_alloc _ _ _ hx]; exact h1
  have hne : ∀ k, v6.ownBlock = some k → k ≠ x := by
    intro k hk e
    subst e
    rcases hat with h | h
    · rw [h, h4] at hk; exact H.ne hk
    · rw [h] at hk; simp only [Option.some.injEq] at hk; omega
  refine ⟨h6, v6.ownBlock, rfl, ⟨⟨v6, ?_, ?_, rfl⟩, fun e => hne x e rfl⟩, ?_, ?_⟩
  · simp [World.setCell, Array.getElem?_modify, h6]
  · have : Owns w6 0 v6 (ss ++ [m]) := by
      unfold Owns
      rw [List.length_append, List.map_append]; exact hown
    exact this.kept fun k hk => Below.heap_setCell _ _ _ _ (hne k hk)
  · have h26 : OnX x r w2 w6 := ⟨hg.os, hg.tape, hg.output, by have := hg.size; simp at this; omega, fun k hk h1 h2 => by
      rw [hg.block k (by simp; omega) (fun e => h2 (by rw [← h4]; exact e)), Below.heap_alloc _ _ _ hk]⟩
    exact ((OnX.of_quiet hq).trans h26).trans (OnX.set w6 3 _)
  · rcases hat with h | h
    · exact .inl (by rw [h, h4])
    · exact .inr fun k hk => by rw [h] at hk; simp only [Option.some.injEq] at hk; rw [hq.heap] at hk; omega

set_option maxHeartbeats 4000000 in
theorem stop_more (x : Nat) (r : Option Nat) (mv pv : Value) (N : Int) (ss : List Int) (pl m : Int) (w : World) (H : Idf w x r mv pv N ss pl) (hp : 0 ≤ pl) (hmp : m ≠ pl) (h0 : 0 ≤ m) (h1 : m < N) (hs : hasB m ss = false) (hl : ss.length ≤ 100000) :
    Calls Tryd.prog 14 #[.pointer (some ⟨x, 0, none⟩), .int .i64 m] w (IPost x r mv pv (.tuple #[.bool false, .bool true]) N (ss ++ [m]) pl w) := by
  have c2 := H.c2
  have c4 := H.c4
  obtain ⟨sv, c3, ho, _⟩ := H.c3
  have C := hid (fun w2 (hq : Quiet w w2) => contains_any sv ss m w2 (ho.reads.of_below (hq.below _)) (by omega))
  rw [hs] at C
  obtain ⟨n, hn⟩ : ∃ n, n = ss.length := ⟨_, rfl⟩
  obtain ⟨a, c, rfl⟩ := ho.reads_n hn.symm
  have HH := hid H
  have HN := hid hn
  have t : (m == pl) = false := beq_eq_false_iff_ne.2 hmp
  have t2 : (pl == -1) = false := beq_eq_false_iff_ne.2 (by omega)
  rw [← hn] at hl
  clear H ho hs hn hmp
  go_enter Tryd.func14, Tryd.ntmps14
  go_wp2_with fail
  refine (C.out _ (Quiet.refl _)).mono ?_
  rintro e w2 ⟨rfl, hq2⟩
  have H2 := hid (HH.out.kept (w' := w2) (by rw [hq2.heap]) (fun k _ => by rw [hq2.heap]))
  have d4 := H2.out.c4
  obtain ⟨sv2, d3, ho2, hr2⟩ := H2.out.c3
  have hsv : sv2 = .slice a n c := by
    have := (hq2.cell ⟨x, 3, none⟩).trans c3
    rw [d3] at this
    simpa using this
  subst hsv
  have HO := hid (show (w2.alloc (.cells #[.int .i64 m] 3)).ownsRow 0 3 1 (.slice a n c) n (ss.map (Value.int .i64)) by
    have := ho2; unfold Owns at this; rw [← HN.out] at this; exact this.alloc _)
  have B1 := hid (show n + 1 ≤ maxLen by unfold maxLen; omega)
  have B2 := hid (show (n + 1) * 8 ≤ 140737488355328 by omega)
  have B3 := hid (show 0 ≤ (w2.alloc (.cells #[.int .i64 m] 3)).heap.size by omega)
  have HQ := hid hq2
  have HR2 := hid hr2
  have HD3 := hid d3
  clear hq2 ho2 hr2
  go_upto_region 6 with (fail)
  obtain ⟨i0, hi, hz0, hz1, hz2⟩ := info_parts infoInt
  have HI := hid hi
  have HZ0 := hid hz0
  have HZ1 := hid hz1
  have HZ2 := hid hz2
  clear hi hz0 hz1 hz2
  go_wp2_with (at_builtin; refine wpList_append_own_at _ rfl _ _ 26 rfl 0 3 i0 (.int .i64 0) 1 8 Tryd.underlying26 HI.out HZ0.out HZ1.out HZ2.out rfl (by decide) _ _ _ rfl HO.out ⟨w2.heap.size, 0, none⟩ 1 1 [.int .i64 m] rfl rfl (cell_one_new _ _ _) (ones_of [m]) B1.out B2.out B3.out ?_)
  intro v6 w6 hown6 hgr6 _ hat6
  obtain ⟨h6, hfin⟩ := more_fin (v6 := v6) H2.out HQ.out HD3.out HR2.out (by rw [← HN.out]; exact hown6) (by rw [HR2.out]; exact hgr6) (by rw [HR2.out]; simpa using hat6)
  have FIN := hid hfin
  obtain ⟨va6, vc6, rfl⟩ : ∃ a c, v6 = .slice a (n + 1) c := by
    obtain ⟨h0, ⟨h1, h2⟩ | ⟨g, cap, cur, h1, _⟩⟩ := hown6
    · omega
    · exact ⟨_, _, h1⟩
  have k3 : w6.cell? ⟨x, 3, none⟩ = some (.slice a n c) := by simp [World.cell?, h6]
  have g3 : w6.frozen? ⟨x, 3, none⟩ = false := by simp [World.frozen?, h6]
  clear hown6 hgr6 hat6 h6 hfin HO
  go_wp2
  go_ret2
  exact FIN.out

/-- A slice of the call's own, one shorter. -/
theorem owns_pre {w : World} {base : Nat} {a : Option Addr} {n c : Nat} {ss : List Int} {m : Int} (h : Owns w base (.slice a (n + 1) c) (ss ++ [m])) (hn : ss.length = n) : Owns w base (.slice a n c) ss := by
  obtain ⟨h0, ⟨h1, h2⟩ | ⟨g, cap, cur, h1, h2, h3, h4, h5, h6, h7⟩⟩ := h
  · simp at h2
  · simp only [Value.slice.injEq] at h1
    obtain ⟨rfl, _, rfl⟩ := h1
    rw [List.length_append, List.length_singleton] at h4 h7
    refine ⟨by simp, .inr ⟨g, c, cur, by rw [hn], h2, h3, by omega, h5, h6, ?_⟩⟩
    rw [Nat.mul_one] at h7 ⊢
    have := congrArg (List.take ss.length) h7
    rw [List.take_take, Nat.min_eq_left (by omega), List.map_append, List.take_left' (by simp)] at this
    exact this
theorem take_fin {x : Nat} {r : Option Nat} {mv pv : Value} {N : Int} {ss : List Int} {pl m : Int} {w : World} {a : Option Addr} {n c : Nat} (H : Idf w x r mv pv N (ss ++ [m]) pl) (h3 : w.cell? ⟨x, 3, none⟩ = some (.slice a (n + 1) c)) (hn : ss.length = n) :
    IPost x r mv pv (.tuple #[.int .i64 m, .bool true]) N ss pl w (.returned (.tuple #[.int .i64 m, .bool true])) (w.setCell ⟨x, 3, none⟩ (.slice a n c)) := by
  obtain ⟨sv, h1, h2, h4⟩ := H.h
  have e : sv = .slice a (n + 1) c := by
    simp [World.cell?, h1] at h3; exact h3
  subst e
  have ho := owns_pre h2 hn
  have hb : (Value.slice a n c).ownBlock = r := by rw [← h4]; cases a <;> rfl
  refine ⟨r, rfl, ⟨⟨.slice a n c, ?_, ho.kept fun k hk => Below.heap_setCell _ _ _ _ (fun e => H.ne (by rw [← hb, hk, e])), hb⟩, H.ne⟩, OnX.set w 3 _, .inl rfl⟩
  simp [World.setCell, Array.getElem?_modify, h1]

set_option maxHeartbeats 2000000 in
theorem takeM_last (x : Nat) (r : Option Nat) (mv pv : Value) (N : Int) (ss : List Int) (pl m : Int) (w : World) (H : Idf w x r mv pv N (ss ++ [m]) pl) (hl : ss.length ≤ 100000) :
    Calls Tryd.prog 15 #[.pointer (some ⟨x, 0, none⟩)] w (IPost x r mv pv (.tuple #[.int .i64 m, .bool true]) N ss pl w) := by
  obtain ⟨sv, c3, ho, _⟩ := H.c3
  obtain ⟨n, hn⟩ : ∃ n, n = ss.length := ⟨_, rfl⟩
  obtain ⟨a, c, rfl⟩ := ho.reads_n (show (ss ++ [m]).length = n + 1 by rw [List.length_append, ← hn]; rfl)
  have f3 := H.frz 3
  have FIN := hid (take_fin H c3 hn.symm)
  have hrd := ho.reads
  obtain ⟨a', c', he, hcap, hr⟩ := hrd
  simp only [Value.slice.injEq] at he
  obtain ⟨g, o, h2, h3, h4⟩ := hr (by simp)
  have hcc := hcap.1
  rw [← he.2.2, List.length_append, List.length_singleton, ← hn] at hcc
  have hcm := hcap.2.1
  rw [← he.2.2] at hcm
  unfold maxLen at hcm
  have hcm2 := hcm
  have he1 := he.1
  rw [h2] at he1
  have cl := h4 n (by rw [List.length_append, ← hn]; simp)
  have e1 : (ss ++ [m]).getD n 0 = m := by rw [hn]; simp
  rw [e1] at cl
  rw [← hn] at hl
  clear H ho he h2 h4 hr hn hcap e1 h3
  subst he1
  have hn1 : ((n + 1 : Nat) : Int) - 1 = n := by omega
  have hnc : (n : Int) ≤ (c : Int) := by omega
  go_enter Tryd.func15, Tryd.ntmps15
  go_wp2
  go_ret2
  exact FIN.out
set_option maxHeartbeats 2000000 in
theorem takeM_poller (x : Nat) (r : Option Nat) (mv pv : Value) (N : Int) (pl : Int) (w : World) (H : Idf w x r mv pv N [] pl) (h0 : 0 ≤ pl) :
    Calls Tryd.prog 15 #[.pointer (some ⟨x, 0, none⟩)] w (IPost x r mv pv (.tuple #[.int .i64 pl, .bool true]) N [] (-1) w) := by
  obtain ⟨sv, c3, ho, _⟩ := H.c3
  obtain ⟨a, c, rfl⟩ := ho.reads_n (show ([] : List Int).length = 0 from rfl)
  have c4 := H.c4
  have f4 := H.frz 4
  have P := hid (poller_yes x r mv pv N [] pl w H h0)
  have FIN : Hid (IPost x r mv pv (.tuple #[.int .i64 pl, .bool true]) N [] (-1) w (.returned (.tuple #[.int .i64 pl, .bool true])) (w.setCell ⟨x, 4, none⟩ (.int .i64 (-1)))) := ⟨r, rfl, H.poller (-1), OnX.set w 4 _, .inl rfl⟩
  clear H ho
  go_enter Tryd.func15, Tryd.ntmps15
  go_wp2_with fail
  refine P.out.mono ?_
  rintro e w2 ⟨rfl, rfl⟩
  go_wp2
  go_ret2
  exact FIN.out
set_option maxHeartbeats 2000000 in
theorem takeM_none (x : Nat) (r : Option Nat) (mv pv : Value) (N : Int) (w : World) (H : Idf w x r mv pv N [] (-1)) :
    Calls Tryd.prog 15 #[.pointer (some ⟨x, 0, none⟩)] w (IPost x r mv pv (.tuple #[.int .i64 0, .bool false]) N [] (-1) w) := by
  obtain ⟨sv, c3, ho, _⟩ := H.c3
  obtain ⟨a, c, rfl⟩ := ho.reads_n (show ([] : List Int).length = 0 from rfl)
  have c4 := H.c4
  have f4 := H.frz 4
  have P := hid (poller_no x r mv pv N [] w H)
  have FIN : Hid (IPost x r mv pv (.tuple #[.int .i64 0, .bool false]) N [] (-1) w (.returned (.tuple #[.int .i64 0, .bool false])) (w.setCell ⟨x, 4, none⟩ (.int .i64 (-1)))) := ⟨r, rfl, H.poller (-1), OnX.set w 4 _, .inl rfl⟩
  clear H ho
  go_enter Tryd.func15, Tryd.ntmps15
  go_wp2_with fail
  refine P.out.mono ?_
  rintro e w2 ⟨rfl, rfl⟩
  go_wp2
  go_ret2
  exact FIN.out

set_option maxHeartbeats 2000000 in
theorem stop_no (x : Nat) (r : Option Nat) (mv pv : Value) (N : Int) (ss : List Int) (pl m : Int) (w : World) (H : Idf w x r mv pv N ss pl) (h0 : 0 ≤ m) (h1 : m < N) (hs : m = pl ∨ (m ≠ pl ∧ hasB m ss = true)) (hl : ss.length ≤ 100000) :
    Calls Tryd.prog 14 #[.pointer (some ⟨x, 0, none⟩), .int .i64 m] w fun e w' => e = .returned (.tuple #[.bool false, .bool false]) ∧ Quiet w w' := by
  have c2 := H.c2
  have c4 := H.c4
  rcases hs with he | ⟨hne, hs⟩
  · have t : (m == pl) = true := beq_iff_eq.2 he
    clear H he
    go_enter Tryd.func14, Tryd.ntmps14
    go_wp2
    go_ret2
    exact ⟨rfl, Quiet.refl _⟩
  · obtain ⟨sv, c3, ho, _⟩ := H.c3
    have C := hid (contains_any sv ss m w ho.reads (by omega))
    rw [hs] at C
    obtain ⟨a, sm, c, rfl⟩ := ho.slice3
    have t : (m == pl) = false := beq_eq_false_iff_ne.2 hne
    clear H ho hs hne
    go_enter Tryd.func14, Tryd.ntmps14
    go_wp2_with fail
    refine C.out.mono ?_
    rintro e w2 ⟨rfl, hq2⟩
    go_wp2
    go_ret2
    exact ⟨rfl, hq2⟩
end Go.Proofs.YtnabikoieolfcaaDoor
