/- Machines that are idle: what the struct holds of them; New, Stop, Leave, Poller, CountM, TakeM. -/
import Derived.Test.YtdhinekggbkjjaaHasP
import Derived.Laws.MakeOwn
import Derived.Maps.AppendAt
import Derived.Deep.RegionWith
import Derived.IntWalk
import Derived.Deep.CutRange
namespace Go.Proofs.Ytdhinekggbkjjaa
set_option linter.unusedVariables false
set_option linter.unusedSimpArgs false
open Go.RowKit

/-- Block x is an Idle of N machines: ss are stopped, pl polls (-1: nobody); the stopped ones' slice lies in block r. -/
structure Idl (w : World) (x : Nat) (r : Option Nat) (N : Int) (ss : List Int) (pl : Int) : Prop where
  h : ∃ mv pv sv, w.heap[x]? = some (.cells #[mv, pv, .int .i64 N, sv, .int .i64 pl] 38 (0, 0)) ∧ Owns w 0 sv ss ∧ sv.ownBlock = r
  ne : r ≠ some x
theorem Idl.lt {w : World} {x : Nat} {r : Option Nat} {N : Int} {ss : List Int} {pl : Int} (H : Idl w x r N ss pl) : x < w.heap.size := by
  obtain ⟨_, _, _, h1, _⟩ := H.h
  rw [Array.getElem?_eq_some_iff] at h1; exact h1.1
theorem Idl.c2 {w : World} {x : Nat} {r : Option Nat} {N : Int} {ss : List Int} {pl : Int} (H : Idl w x r N ss pl) : w.cell? ⟨x, 2, none⟩ = some (.int .i64 N) := by
  obtain ⟨_, _, _, h1, _⟩ := H.h
  simp [World.cell?, h1]
theorem Idl.c4 {w : World} {x : Nat} {r : Option Nat} {N : Int} {ss : List Int} {pl : Int} (H : Idl w x r N ss pl) : w.cell? ⟨x, 4, none⟩ = some (.int .i64 pl) := by
  obtain ⟨_, _, _, h1, _⟩ := H.h
  simp [World.cell?, h1]
theorem Idl.frz {w : World} {x : Nat} {r : Option Nat} {N : Int} {ss : List Int} {pl : Int} (H : Idl w x r N ss pl) (i : Nat) : w.frozen? ⟨x, i, none⟩ = false := by
  obtain ⟨_, _, _, h1, _⟩ := H.h
  simp [World.frozen?, h1]
theorem Idl.c3 {w : World} {x : Nat} {r : Option Nat} {N : Int} {ss : List Int} {pl : Int} (H : Idl w x r N ss pl) : ∃ sv, w.cell? ⟨x, 3, none⟩ = some sv ∧ Owns w 0 sv ss ∧ sv.ownBlock = r := by
  obtain ⟨_, _, sv, h1, h2, h3⟩ := H.h
  exact ⟨sv, by simp [World.cell?, h1], h2, h3⟩
theorem Idl.poller {w : World} {x : Nat} {r : Option Nat} {N : Int} {ss : List Int} {pl : Int} (H : Idl w x r N ss pl) (k : Int) : Idl (w.setCell ⟨x, 4, none⟩ (.int .i64 k)) x r N ss k := by
  obtain ⟨mv, pv, sv, h1, h2, h3⟩ := H.h
  refine ⟨⟨mv, pv, sv, ?_, h2.kept fun q hq => Below.heap_setCell _ _ _ _ (fun e => H.ne (by rw [← h3, hq, e])), h3⟩, H.ne⟩
  simp [World.setCell, Array.getElem?_modify, h1]
/-- Blocks x and r alone, and new ones. -/
structure OnX (x : Nat) (r : Option Nat) (w w' : World) : Prop where
  os : w'.os = w.os
  tape : w'.tape = w.tape
  output : w'.output = w.output
  size : w.heap.size ≤ w'.heap.size
  block : ∀ k, k < w.heap.size → k ≠ x → some k ≠ r → w'.heap[k]? = w.heap[k]?
theorem OnX.refl (x : Nat) (r : Option Nat) (w : World) : OnX x r w w := ⟨rfl, rfl, rfl, Nat.le_refl _, fun _ _ _ _ => rfl⟩
theorem OnX.set {x : Nat} {r : Option Nat} (w : World) (i : Nat) (v : Value) : OnX x r w (w.setCell ⟨x, i, none⟩ v) := ⟨rfl, rfl, rfl, by simp [World.setCell], fun k _ h1 _ => Below.heap_setCell _ _ _ _ h1⟩
theorem OnX.below {x B : Nat} {r : Option Nat} {w w' : World} (h : OnX x r w w') (hx : B ≤ x) (hr : ∀ k, r = some k → B ≤ k) (hB : B ≤ w.heap.size) : Below B w w' :=
  ⟨h.os, h.tape, h.output, h.size, fun k hk => h.block k (by omega) (by omega) (fun e => by have := hr k e.symm; omega)⟩
theorem OnX.trans {x : Nat} {r : Option Nat} {a b c : World} (h : OnX x r a b) (k : OnX x r b c) : OnX x r a c :=
  ⟨k.os.trans h.os, k.tape.trans h.tape, k.output.trans h.output, Nat.le_trans h.size k.size, fun i hi h1 h2 => (k.block i (Nat.lt_of_lt_of_le hi h.size) h1 h2).trans (h.block i hi h1 h2)⟩
theorem OnX.of_quiet {x : Nat} {r : Option Nat} {w w' : World} (h : Quiet w w') : OnX x r w w' := by
  obtain ⟨n, rfl⟩ := h; exact ⟨rfl, rfl, rfl, Nat.le_refl _, fun _ _ _ _ => rfl⟩
theorem Idl.kept {w w' : World} {x : Nat} {r : Option Nat} {N : Int} {ss : List Int} {pl : Int} (H : Idl w x r N ss pl) (hx : w'.heap[x]? = w.heap[x]?) (hr : ∀ k, r = some k → w'.heap[k]? = w.heap[k]?) : Idl w' x r N ss pl := by
  obtain ⟨mv, pv, sv, h1, h2, h3⟩ := H.h
  exact ⟨⟨mv, pv, sv, hx.trans h1, h2.kept (fun k hk => hr k (by rw [← h3, hk])), h3⟩, H.ne⟩
/-- What a deed leaves. -/
def IPost (x : Nat) (r : Option Nat) (v : Value) (N : Int) (ss : List Int) (pl : Int) (w : World) (e : Ending) (w' : World) : Prop :=
  ∃ r', e = .returned v ∧ Idl w' x r' N ss pl ∧ OnX x r w w' ∧ (r' = r ∨ ∀ k, r' = some k → w.heap.size ≤ k)

set_option maxHeartbeats 1000000 in
theorem poller_no (x : Nat) (r : Option Nat) (N : Int) (ss : List Int) (w : World) (H : Idl w x r N ss (-1)) :
    Calls Try.prog 9 #[.pointer (some ⟨x, 0, none⟩)] w fun e w' => e = .returned (.tuple #[.int .i64 0, .bool false]) ∧ w = w' := by
  have c4 := H.c4
  clear H
  go_enter Try.func9, Try.ntmps9
  go_wp2
  go_ret2
  exact ⟨rfl, rfl⟩
set_option maxHeartbeats 1000000 in
theorem poller_yes (x : Nat) (r : Option Nat) (N : Int) (ss : List Int) (pl : Int) (w : World) (H : Idl w x r N ss pl) (h0 : 0 ≤ pl) :
    Calls Try.prog 9 #[.pointer (some ⟨x, 0, none⟩)] w fun e w' => e = .returned (.tuple #[.int .i64 pl, .bool true]) ∧ w = w' := by
  have c4 := H.c4
  have t : (pl == -1) = false := beq_eq_false_iff_ne.2 (by omega)
  clear H
  go_enter Try.func9, Try.ntmps9
  go_wp2
  go_ret2
  exact ⟨rfl, rfl⟩
set_option maxHeartbeats 1000000 in
theorem leave_no (x : Nat) (r : Option Nat) (N : Int) (ss : List Int) (pl m : Int) (w : World) (H : Idl w x r N ss pl) (h : m = -1 ∨ m ≠ pl) :
    Calls Try.prog 8 #[.pointer (some ⟨x, 0, none⟩), .int .i64 m] w fun e w' => e = .returned (.bool false) ∧ w = w' := by
  have c4 := H.c4
  clear H
  by_cases hm : m = -1
  · have t : (m == -1) = true := beq_iff_eq.2 hm
    clear h hm
    go_enter Try.func8, Try.ntmps8
    go_wp2
    go_ret
    exact ⟨rfl, rfl⟩
  · have t : (m == -1) = false := beq_eq_false_iff_ne.2 hm
    have t2 : (m != pl) = true := by rw [bne_iff_ne]; rcases h with h | h; exact absurd h hm; exact h
    clear h hm
    go_enter Try.func8, Try.ntmps8
    go_wp2
    go_ret
    exact ⟨rfl, rfl⟩
set_option maxHeartbeats 1000000 in
theorem leave_yes (x : Nat) (r : Option Nat) (N : Int) (ss : List Int) (pl : Int) (w : World) (H : Idl w x r N ss pl) (h : 0 ≤ pl) :
    Calls Try.prog 8 #[.pointer (some ⟨x, 0, none⟩), .int .i64 pl] w (IPost x r (.bool true) N ss (-1) w) := by
  have c4 := H.c4
  have f4 := H.frz 4
  have FIN : Hid (IPost x r (.bool true) N ss (-1) w (.returned (.bool true)) (w.setCell ⟨x, 4, none⟩ (.int .i64 (-1)))) := ⟨r, rfl, H.poller (-1), OnX.set w 4 _, .inl rfl⟩
  have t : (pl == -1) = false := beq_eq_false_iff_ne.2 (by omega)
  clear H
  go_enter Try.func8, Try.ntmps8
  go_wp2
  go_ret
  exact FIN.out
set_option maxHeartbeats 1000000 in
theorem countM (x : Nat) (r : Option Nat) (N : Int) (ss : List Int) (pl : Int) (n : Nat) (hn : ss.length = n) (w : World) (H : Idl w x r N ss pl) :
    Calls Try.prog 10 #[.pointer (some ⟨x, 0, none⟩)] w fun e w' => e = .returned (.int .i64 n) ∧ w = w' := by
  obtain ⟨sv, c3, ho, _⟩ := H.c3
  obtain ⟨a, c, rfl⟩ := ho.reads_n hn
  clear H ho hn
  go_enter Try.func10, Try.ntmps10
  go_wp2
  go_ret
  exact ⟨rfl, rfl⟩

set_option maxHeartbeats 2000000 in
theorem stop_first (x : Nat) (r : Option Nat) (N : Int) (ss : List Int) (m : Int) (w : World) (H : Idl w x r N ss (-1)) (h0 : 0 ≤ m) (h1 : m < N) (hs : hasB m ss = false) (hl : ss.length ≤ 100000) :
    Calls Try.prog 7 #[.pointer (some ⟨x, 0, none⟩), .int .i64 m] w (IPost x r (.tuple #[.bool true, .bool true]) N ss m w) := by
  have c2 := H.c2
  have c4 := H.c4
  have f4 := H.frz 4
  obtain ⟨sv, c3, ho, _⟩ := H.c3
  have C := hid (fun w2 (hq : Quiet w w2) => contains_any sv ss m w2 (ho.reads.of_below (hq.below _)) (by omega))
  rw [hs] at C
  obtain ⟨a, sm, c, rfl⟩ := ho.slice3
  have HH := hid H
  have t : (m == -1) = false := beq_eq_false_iff_ne.2 (by omega)
  clear H ho hs
  go_enter Try.func7, Try.ntmps7
  go_wp2_with fail
  refine (C.out _ (Quiet.refl _)).mono ?_
  rintro e w2 ⟨rfl, hq2⟩
  have H2 := hid (HH.out.kept (w' := w2) (by rw [hq2.heap]) (fun k _ => by rw [hq2.heap]))
  have d4 := H2.out.c4
  have g4 := H2.out.frz 4
  have FIN : Hid (IPost x r (.tuple #[.bool true, .bool true]) N ss m w (.returned (.tuple #[.bool true, .bool true])) (w2.setCell ⟨x, 4, none⟩ (.int .i64 m))) := ⟨r, rfl, H2.out.poller m, (OnX.of_quiet hq2).trans (OnX.set w2 4 _), .inl rfl⟩
  clear hq2
  go_wp2
  go_ret2
  exact FIN.out

theorem more_fin {x : Nat} {r : Option Nat} {N : Int} {ss : List Int} {pl m : Int} {w w2 w6 : World} {sv v6 : Value} (H : Idl w2 x r N ss pl) (hq : Quiet w w2) (h3 : w2.cell? ⟨x, 3, none⟩ = some sv) (hr : sv.ownBlock = r)
    (hown : w6.ownsRow 0 3 1 v6 (ss.length + 1) (ss.map (Value.int .i64) ++ [.int .i64 m])) (hg : (w2.alloc (.cells #[.int .i64 m] 3)).grownBy w6 sv.ownBlock) (hat : v6.ownBlock = sv.ownBlock ∨ v6.ownBlock = some (w2.heap.size + 1)) :
    (∃ mv pv, w6.heap[x]? = some (.cells #[mv, pv, .int .i64 N, sv, .int .i64 pl] 38 (0, 0))) ∧ IPost x r (.tuple #[.bool false, .bool true]) N (ss ++ [m]) pl w (.returned (.tuple #[.bool false, .bool true])) (w6.setCell ⟨x, 3, none⟩ v6) := by
  obtain ⟨mv, pv, sv', h1, h2, h4⟩ := H.h
  have hx := H.lt
  have e : sv' = sv := by
    simp [World.cell?, h1] at h3; exact h3
  subst e
  have h6 : w6.heap[x]? = some (.cells #[mv, pv, .int .i64 N, sv', .int .i64 pl] 38 (0, 0)) := by
    rw [hg.block x (by simp; omega) (fun e => H.ne (by rw [← h4]; exact e.symm)), Below.heap_alloc _ _ _ hx]; exact h1
  have hne : ∀ k, v6.ownBlock = some k → k ≠ x := by
    intro k hk e
    subst e
    rcases hat with h | h
    · rw [h, h4] at hk; exact H.ne hk
    · rw [h] at hk; simp only [Option.some.injEq] at hk; omega
  refine ⟨⟨mv, pv, h6⟩, v6.ownBlock, rfl, ⟨⟨mv, pv, v6, ?_, ?_, rfl⟩, fun e => hne x e rfl⟩, ?_, ?_⟩
  · simp [World.setCell, Array.getElem?_modify, h6]
  · have : Owns w6 0 v6 (ss ++ [m]) := by
      unfold Owns
      rw [List.length_append, List.map_append]; exact hown
    exact this.kept fun k hk => Below.heap_setCell _ _ _ _ (hne k hk)
  · have h26 : OnX x r w2 w6 := ⟨hg.os, hg.tape, hg.output, by have := hg.size; simp at this; omega, fun k hk h1 h2 => by
      rw [hg.block k (by simp; omega) (fun e => h2 (by rw [← h4]; exact e)), Below.heap_alloc _ _ _ hk]⟩
    exact ((OnX.of_quiet hq).trans h26).trans (OnX.set w6 3 _)
  · rcases hat with h | h
    · exact .inl (by rw [h, h4])
    · exact .inr fun k hk => by rw [h] at hk; simp only [Option.some.injEq] at hk; rw [hq.heap] at hk; omega

set_option maxHeartbeats 4000000 in
theorem stop_more (x : Nat) (r : Option Nat) (N : Int) (ss : List Int) (pl m : Int) (w : World) (H : Idl w x r N ss pl) (hp : 0 ≤ pl) (hmp : m ≠ pl) (h0 : 0 ≤ m) (h1 : m < N) (hs : hasB m ss = false) (hl : ss.length ≤ 100000) :
    Calls Try.prog 7 #[.pointer (some ⟨x, 0, none⟩), .int .i64 m] w (IPost x r (.tuple #[.bool false, .bool true]) N (ss ++ [m]) pl w) := by
  have c2 := H.c2
  have c4 := H.c4
  obtain ⟨sv, c3, ho, _⟩ := H.c3
  have C := hid (fun w2 (hq : Quiet w w2) => contains_any sv ss m w2 (ho.reads.of_below (hq.below _)) (by omega))
  rw [hs] at C
  obtain ⟨n, hn⟩ : ∃ n, n = ss.length := ⟨_, rfl⟩
  obtain ⟨a, c, rfl⟩ := ho.reads_n hn.symm
  have HH := hid H
  have HN := hid hn
  have t : (m == pl) = false := beq_eq_false_iff_ne.2 hmp
  have t2 : (pl == -1) = false := beq_eq_false_iff_ne.2 (by omega)
  rw [← hn] at hl
  clear H ho hs hn hmp
  go_enter Try.func7, Try.ntmps7
  go_wp2_with fail
  refine (C.out _ (Quiet.refl _)).mono ?_
  rintro e w2 ⟨rfl, hq2⟩
  have H2 := hid (HH.out.kept (w' := w2) (by rw [hq2.heap]) (fun k _ => by rw [hq2.heap]))
  have d4 := H2.out.c4
  obtain ⟨sv2, d3, ho2, hr2⟩ := H2.out.c3
  have hsv : sv2 = .slice a n c := by
    have := (hq2.cell ⟨x, 3, none⟩).trans c3
    rw [d3] at this
    simpa using this
  subst hsv
  have HO := hid (show (w2.alloc (.cells #[.int .i64 m] 3)).ownsRow 0 3 1 (.slice a n c) n (ss.map (Value.int .i64)) by
    have := ho2; unfold Owns at this; rw [← HN.out] at this; exact this.alloc _)
  have B1 := hid (show n + 1 ≤ maxLen by unfold maxLen; omega)
  have B2 := hid (show (n + 1) * 8 ≤ 140737488355328 by omega)
  have B3 := hid (show 0 ≤ (w2.alloc (.cells #[.int .i64 m] 3)).heap.size by omega)
  have HQ := hid hq2
  have HR2 := hid hr2
  have HD3 := hid d3
  clear hq2 ho2 hr2
  go_upto_region 6 with (fail)
  obtain ⟨i0, hi, hz0, hz1, hz2⟩ := info_parts infoInt
  have HI := hid hi
  have HZ0 := hid hz0
  have HZ1 := hid hz1
  have HZ2 := hid hz2
  clear hi hz0 hz1 hz2
  go_wp2_with (at_builtin; refine wpList_append_own_at _ rfl _ _ 36 rfl 0 3 i0 (.int .i64 0) 1 8 Try.underlying36 HI.out HZ0.out HZ1.out HZ2.out rfl (by decide) _ _ _ rfl HO.out ⟨w2.heap.size, 0, none⟩ 1 1 [.int .i64 m] rfl rfl (cell_one_new _ _ _) (ones_of [m]) B1.out B2.out B3.out ?_)
  intro v6 w6 hown6 hgr6 _ hat6
  obtain ⟨⟨mv, pv, h6⟩, hfin⟩ := more_fin (v6 := v6) H2.out HQ.out HD3.out HR2.out (by rw [← HN.out]; exact hown6) (by rw [HR2.out]; exact hgr6) (by rw [HR2.out]; simpa using hat6)
  have FIN := hid hfin
  obtain ⟨va6, vc6, rfl⟩ : ∃ a c, v6 = .slice a (n + 1) c := by
    obtain ⟨h0, ⟨h1, h2⟩ | ⟨g, cap, cur, h1, _⟩⟩ := hown6
    · omega
    · exact ⟨_, _, h1⟩
  have k3 : w6.cell? ⟨x, 3, none⟩ = some (.slice a n c) := by simp [World.cell?, h6]
  have g3 : w6.frozen? ⟨x, 3, none⟩ = false := by simp [World.frozen?, h6]
  clear hown6 hgr6 hat6 h6 hfin HO
  go_wp2
  go_ret2
  exact FIN.out

/-- A slice of the call's own, one shorter. -/
theorem owns_pre {w : World} {base : Nat} {a : Option Addr} {n c : Nat} {ss : List Int} {m : Int} (h : Owns w base (.slice a (n + 1) c) (ss ++ [m])) (hn : ss.length = n) : Owns w base (.slice a n c) ss := by
  obtain ⟨h0, ⟨h1, h2⟩ | ⟨g, cap, cur, h1, h2, h3, h4, h5, h6, h7⟩⟩ := h
  · simp at h2
  · simp only [Value.slice.injEq] at h1
    obtain ⟨rfl, _, rfl⟩ := h1
    rw [List.length_append, List.length_singleton] at h4 h7
    refine ⟨by simp, .inr ⟨g, c, cur, by rw [hn], h2, h3, by omega, h5, h6, ?_⟩⟩
    rw [Nat.mul_one] at h7 ⊢
    have := congrArg (List.take ss.length) h7
    rw [List.take_take, Nat.min_eq_left (by omega), List.map_append, List.take_left' (by simp)] at this
    exact this
theorem take_fin {x : Nat} {r : Option Nat} {N : Int} {ss : List Int} {pl m : Int} {w : World} {a : Option Addr} {n c : Nat} (H : Idl w x r N (ss ++ [m]) pl) (h3 : w.cell? ⟨x, 3, none⟩ = some (.slice a (n + 1) c)) (hn : ss.length = n) :
    IPost x r (.tuple #[.int .i64 m, .bool true]) N ss pl w (.returned (.tuple #[.int .i64 m, .bool true])) (w.setCell ⟨x, 3, none⟩ (.slice a n c)) := by
  obtain ⟨mv, pv, sv, h1, h2, h4⟩ := H.h
  have e : sv = .slice a (n + 1) c := by
    simp [World.cell?, h1] at h3; exact h3
  subst e
  have ho := owns_pre h2 hn
  have hb : (Value.slice a n c).ownBlock = r := by rw [← h4]; cases a <;> rfl
  refine ⟨r, rfl, ⟨⟨mv, pv, .slice a n c, ?_, ho.kept fun k hk => Below.heap_setCell _ _ _ _ (fun e => H.ne (by rw [← hb, hk, e])), hb⟩, H.ne⟩, OnX.set w 3 _, .inl rfl⟩
  simp [World.setCell, Array.getElem?_modify, h1]

set_option maxHeartbeats 2000000 in
theorem takeM_last (x : Nat) (r : Option Nat) (N : Int) (ss : List Int) (pl m : Int) (w : World) (H : Idl w x r N (ss ++ [m]) pl) (hl : ss.length ≤ 100000) :
    Calls Try.prog 11 #[.pointer (some ⟨x, 0, none⟩)] w (IPost x r (.tuple #[.int .i64 m, .bool true]) N ss pl w) := by
  obtain ⟨sv, c3, ho, _⟩ := H.c3
  obtain ⟨n, hn⟩ : ∃ n, n = ss.length := ⟨_, rfl⟩
  obtain ⟨a, c, rfl⟩ := ho.reads_n (show (ss ++ [m]).length = n + 1 by rw [List.length_append, ← hn]; rfl)
  have f3 := H.frz 3
  have FIN := hid (take_fin H c3 hn.symm)
  have hrd := ho.reads
  obtain ⟨a', c', he, hcap, hr⟩ := hrd
  simp only [Value.slice.injEq] at he
  obtain ⟨g, o, h2, h3, h4⟩ := hr (by simp)
  have hcc := hcap.1
  rw [← he.2.2, List.length_append, List.length_singleton, ← hn] at hcc
  have hcm := hcap.2.1
  rw [← he.2.2] at hcm
  unfold maxLen at hcm
  have hcm2 := hcm
  have he1 := he.1
  rw [h2] at he1
  have cl := h4 n (by rw [List.length_append, ← hn]; simp)
  have e1 : (ss ++ [m]).getD n 0 = m := by rw [hn]; simp
  rw [e1] at cl
  rw [← hn] at hl
  clear H ho he h2 h4 hr hn hcap e1 h3
  subst he1
  have hn1 : ((n + 1 : Nat) : Int) - 1 = n := by omega
  have hnc : (n : Int) ≤ (c : Int) := by omega
  go_enter Try.func11, Try.ntmps11
  go_wp2
  go_ret2
  exact FIN.out
set_option maxHeartbeats 2000000 in
theorem takeM_poller (x : Nat) (r : Option Nat) (N : Int) (pl : Int) (w : World) (H : Idl w x r N [] pl) (h0 : 0 ≤ pl) :
    Calls Try.prog 11 #[.pointer (some ⟨x, 0, none⟩)] w (IPost x r (.tuple #[.int .i64 pl, .bool true]) N [] (-1) w) := by
  obtain ⟨sv, c3, ho, _⟩ := H.c3
  obtain ⟨a, c, rfl⟩ := ho.reads_n (show ([] : List Int).length = 0 from rfl)
  have c4 := H.c4
  have f4 := H.frz 4
  have P := hid (poller_yes x r N [] pl w H h0)
  have FIN : Hid (IPost x r (.tuple #[.int .i64 pl, .bool true]) N [] (-1) w (.returned (.tuple #[.int .i64 pl, .bool true])) (w.setCell ⟨x, 4, none⟩ (.int .i64 (-1)))) := ⟨r, rfl, H.poller (-1), OnX.set w 4 _, .inl rfl⟩
  clear H ho
  go_enter Try.func11, Try.ntmps11
  go_wp2_with fail
  refine P.out.mono ?_
  rintro e w2 ⟨rfl, rfl⟩
  go_wp2
  go_ret2
  exact FIN.out
set_option maxHeartbeats 2000000 in
theorem takeM_none (x : Nat) (r : Option Nat) (N : Int) (w : World) (H : Idl w x r N [] (-1)) :
    Calls Try.prog 11 #[.pointer (some ⟨x, 0, none⟩)] w (IPost x r (.tuple #[.int .i64 0, .bool false]) N [] (-1) w) := by
  obtain ⟨sv, c3, ho, _⟩ := H.c3
  obtain ⟨a, c, rfl⟩ := ho.reads_n (show ([] : List Int).length = 0 from rfl)
  have c4 := H.c4
  have f4 := H.frz 4
  have P := hid (poller_no x r N [] w H)
  have FIN : Hid (IPost x r (.tuple #[.int .i64 0, .bool false]) N [] (-1) w (.returned (.tuple #[.int .i64 0, .bool false])) (w.setCell ⟨x, 4, none⟩ (.int .i64 (-1)))) := ⟨r, rfl, H.poller (-1), OnX.set w 4 _, .inl rfl⟩
  clear H ho
  go_enter Try.func11, Try.ntmps11
  go_wp2_with fail
  refine P.out.mono ?_
  rintro e w2 ⟨rfl, rfl⟩
  go_wp2
  go_ret2
  exact FIN.out

/-- A new one, with nobody idle. -/
def INew (N : Int) (w : World) (e : Ending) (w' : World) : Prop := ∃ x, e = .returned (.pointer (some ⟨x, 0, none⟩)) ∧ Idl w' x none N [] (-1) ∧ w.heap.size ≤ x ∧ Below w.heap.size w w'
theorem wpList_make_lc {P : Program} (w : World) {ops : Array Oper} {rest : List Oper} {o : Oper} {a : Act} {Q : Exit → Act → World → Prop}
    (hg : o.guard = none) (l c : Operand) (t : TypeId) (hop : o.op = Op.makeSlice t l c)
    (e : TypeId) (i : TypeInfo) (z : Value) (ht : P.underlying t = some (.slice e)) (hi : P.info? e = some i) (hz : i.zero = some z) (hsize : i.size = 1)
    (kl kc : IntKind) (L C : Int) (n m : Nat) (hl : a.eval l = .int kl L) (hc : a.eval c = .int kc C) (hL : L = n) (hC : C = m) (hnm : n ≤ m) (hbytes : (i.bytes : Int) * m ≤ 281474976710656) (h63 : (m : Int) ≤ 9223372036854775807)
    (hK : wpList P ops Q rest (a.put o.dst (.slice (some ⟨w.heap.size, 0, none⟩) n m)) (w.alloc (.cells (madeCells z.cells m) e))) :
    wpList P ops Q (o :: rest) a w := by
  subst hL
  subst hC
  refine wpList_plain hg fun K hK' => ?_
  have hrun := run_make (P := P) w t e i z ht hi hz kl kc n m (by omega) (by omega) hbytes h63
  simp only [Int.toNat_natCast, hsize, Nat.mul_one] at hrun
  unfold Oper.wp
  simp [execOp, hop, hl, hc, hrun, Result.andThen]
  exact hK' _ _ hK

theorem infoU64 : (Try.prog.info? 59).map (fun i => (i.zero, i.size, i.bytes)) = some (some (.int .u64 0), 1, 8) := by kernel_rfl
set_option maxHeartbeats 2000000 in
theorem mask_1 (w : World) : Calls Try.prog 12 #[.int .i64 1] w fun e w' => (∃ q, e = .returned (.pointer (some q))) ∧ Below w.heap.size w w' := by
  obtain ⟨i0, hi, hz0, hz1, hz2⟩ := info_parts infoU64
  have HI := hid hi
  have HZ0 := hid hz0
  have HZ1 := hid hz1
  have HBY := hid (show (i0.bytes : Int) * ((1 : Nat) : Int) ≤ 281474976710656 by rw [hz2]; omega)
  clear hi hz0 hz1 hz2
  go_enter Try.func12, Try.ntmps12
  go_upto_region 2 with (fail)
  go_wp2_with (with_reducible refine wpList_make_lc _ rfl (.tmp 10) (.tmp 10) 40 rfl 59 i0 (.int .u64 0) Try.underlying40 HI.out HZ0.out HZ1.out .i64 .i64 1 1 1 1 rfl rfl rfl rfl (by omega) HBY.out (by omega) ?_)
  go_ret
  exact ⟨⟨_, rfl⟩, ((Below.refl _ _).alloc (Nat.le_refl _) _).alloc (by simp) _⟩
set_option maxHeartbeats 2000000 in
theorem mask_4 (w : World) : Calls Try.prog 12 #[.int .i64 4] w fun e w' => (∃ q, e = .returned (.pointer (some q))) ∧ Below w.heap.size w w' := by
  obtain ⟨i0, hi, hz0, hz1, hz2⟩ := info_parts infoU64
  have HI := hid hi
  have HZ0 := hid hz0
  have HZ1 := hid hz1
  have HBY := hid (show (i0.bytes : Int) * ((1 : Nat) : Int) ≤ 281474976710656 by rw [hz2]; omega)
  clear hi hz0 hz1 hz2
  go_enter Try.func12, Try.ntmps12
  go_upto_region 2 with (fail)
  go_wp2_with (with_reducible refine wpList_make_lc _ rfl (.tmp 10) (.tmp 10) 40 rfl 59 i0 (.int .u64 0) Try.underlying40 HI.out HZ0.out HZ1.out .i64 .i64 1 1 1 1 rfl rfl rfl rfl (by omega) HBY.out (by omega) ?_)
  go_ret
  exact ⟨⟨_, rfl⟩, ((Below.refl _ _).alloc (Nat.le_refl _) _).alloc (by simp) _⟩
set_option maxHeartbeats 2000000 in
theorem inew_1 (w : World) : Calls Try.prog 6 #[.int .i64 1, .int .i64 128] w (INew 128 w) := by
  go_enter Try.func6, Try.ntmps6
  go_wp2_with fail
  refine (mask_1 _).mono ?_
  rintro e w2 ⟨⟨q, rfl⟩, hb⟩
  have FIN : Hid (INew 128 w (.returned (.pointer (some ⟨w2.heap.size, 0, none⟩))) (w2.alloc (.cells #[.pointer (some q), .slice none 0 0, .int .i64 128, .slice none 0 0, .int .i64 (-1)] 38))) :=
    ⟨w2.heap.size, rfl, ⟨⟨_, _, .slice none 0 0, Deep.blk_alloc_new _ _, ⟨by simp, .inl ⟨rfl, rfl⟩⟩, rfl⟩, by simp⟩, hb.size, hb.alloc hb.size _⟩
  clear hb
  go_wp2
  go_ret
  exact FIN.out
set_option maxHeartbeats 2000000 in
theorem inew_4 (w : World) : Calls Try.prog 6 #[.int .i64 4, .int .i64 4] w (INew 4 w) := by
  go_enter Try.func6, Try.ntmps6
  go_wp2_with fail
  refine (mask_4 _).mono ?_
  rintro e w2 ⟨⟨q, rfl⟩, hb⟩
  have FIN : Hid (INew 4 w (.returned (.pointer (some ⟨w2.heap.size, 0, none⟩))) (w2.alloc (.cells #[.pointer (some q), .slice none 0 0, .int .i64 4, .slice none 0 0, .int .i64 (-1)] 38))) :=
    ⟨w2.heap.size, rfl, ⟨⟨_, _, .slice none 0 0, Deep.blk_alloc_new _ _, ⟨by simp, .inl ⟨rfl, rfl⟩⟩, rfl⟩, by simp⟩, hb.size, hb.alloc hb.size _⟩
  clear hb
  go_wp2
  go_ret
  exact FIN.out
set_option maxHeartbeats 2000000 in
theorem inew_p (w : World) : Calls Try.prog 6 #[.int .i64 4, .int .i64 128] w (INew 128 w) := by
  go_enter Try.func6, Try.ntmps6
  go_wp2_with fail
  refine (mask_4 _).mono ?_
  rintro e w2 ⟨⟨q, rfl⟩, hb⟩
  have FIN : Hid (INew 128 w (.returned (.pointer (some ⟨w2.heap.size, 0, none⟩))) (w2.alloc (.cells #[.pointer (some q), .slice none 0 0, .int .i64 128, .slice none 0 0, .int .i64 (-1)] 38))) :=
    ⟨w2.heap.size, rfl, ⟨⟨_, _, .slice none 0 0, Deep.blk_alloc_new _ _, ⟨by simp, .inl ⟨rfl, rfl⟩⟩, rfl⟩, by simp⟩, hb.size, hb.alloc hb.size _⟩
  clear hb
  go_wp2
  go_ret
  exact FIN.out
end Go.Proofs.Ytdhinekggbkjjaa
