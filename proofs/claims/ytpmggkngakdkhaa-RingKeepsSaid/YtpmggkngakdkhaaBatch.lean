/- The contracts of package batch: what each method answers and what it makes of a row of numbers, whatever its spare room. -/
import Derived.Test.YtpmggkngakdkhaaInts
import Derived.Deep.RegionWith
import Derived.Deep.QuietTactic
import Derived.BigQuiet
import Derived.IntWalk
namespace Go.Proofs.Ytpmggkngakdkhaa
set_option linter.unusedVariables false
set_option linter.unusedSimpArgs false
open Go.RowKit

/-- A batch: block p is the struct; its places are a slice of its own (block r); 'pre' numbers are spare, then comes the row xs. -/
structure Bat0 (w : World) (p : Nat) (r : Option Nat) (pre xs : List Int) : Prop where
  h : ∃ (v : Value), w.heap[p]? = some (.cells #[v, .int .i64 pre.length] 34 (0, 0)) ∧ Owns w 0 v (pre ++ xs) ∧ v.ownBlock = r
  ne : r ≠ some p
  len : xs.length ≤ 1000000
/-- .. and the spare is no more than is said. -/
def Bat (w : World) (p : Nat) (r : Option Nat) (xs : List Int) : Prop := ∃ pre, Bat0 w p r pre xs ∧ pre.length ≤ 3 * xs.length + 3
theorem Bat.len {w : World} {p : Nat} {r : Option Nat} {xs : List Int} (h : Bat w p r xs) : xs.length ≤ 1000000 := by
  obtain ⟨pre, h, _⟩ := h; exact h.len
theorem Bat.ne {w : World} {p : Nat} {r : Option Nat} {xs : List Int} (h : Bat w p r xs) : r ≠ some p := by
  obtain ⟨pre, h, _⟩ := h; exact h.ne

/-- All but block p and the block r is as it was. -/
structure OnlyO (p : Nat) (r : Option Nat) (w w' : World) : Prop where
  os : w'.os = w.os
  tape : w'.tape = w.tape
  output : w'.output = w.output
  size : w.heap.size ≤ w'.heap.size
  block : ∀ k, k < w.heap.size → k ≠ p → some k ≠ r → w'.heap[k]? = w.heap[k]?
theorem OnlyO.refl (p : Nat) (r : Option Nat) (w : World) : OnlyO p r w w := ⟨rfl, rfl, rfl, Nat.le_refl _, fun _ _ _ _ => rfl⟩
theorem OnlyO.of_below {p : Nat} {r : Option Nat} {w w' : World} (h : Below w.heap.size w w') : OnlyO p r w w' := ⟨h.os, h.tape, h.output, h.size, fun k hk _ _ => h.block k hk⟩
theorem OnlyO.below {p B : Nat} {r : Option Nat} {w w' : World} (h : OnlyO p r w w') (hp : B ≤ p) (hr : ∀ k, r = some k → B ≤ k) (hB : B ≤ w.heap.size) : Below B w w' :=
  ⟨h.os, h.tape, h.output, h.size, fun k hk => h.block k (by omega) (by omega) (fun e => by have := hr k e.symm; omega)⟩
theorem OnlyO.quiet {p : Nat} {r : Option Nat} {w w' : World} (h : Quiet w w') : OnlyO p r w w' := .of_below (h.below _)
/-- Two steps; the second may also write a block that is new since the first. -/
theorem OnlyO.trans {p : Nat} {r r' : Option Nat} {a b c : World} (h : OnlyO p r a b) (k : OnlyO p r' b c) (hr : r' = r ∨ ∀ q, r' = some q → a.heap.size ≤ q) : OnlyO p r a c :=
  ⟨k.os.trans h.os, k.tape.trans h.tape, k.output.trans h.output, Nat.le_trans h.size k.size, fun i hi h1 h2 => by
    rw [k.block i (Nat.lt_of_lt_of_le hi h.size) h1 (by
      rcases hr with rfl | hr
      · exact h2
      · intro e; have := hr i e.symm; omega)]
    exact h.block i hi h1 h2⟩

theorem Owns.kept {w w' : World} {base : Nat} {v : Value} {xs : List Int} (h : Owns w base v xs) (hb : ∀ k, v.ownBlock = some k → w'.heap[k]? = w.heap[k]?) : Owns w' base v xs := by
  obtain ⟨h0, h1 | ⟨g, cap, cur, h1, h2, h3, h4⟩⟩ := h
  · exact ⟨h0, .inl h1⟩
  · exact ⟨h0, .inr ⟨g, cap, cur, h1, h2, by rw [hb g (by rw [h1]; rfl)]; exact h3, h4⟩⟩
theorem Owns.lt {w : World} {base : Nat} {v : Value} {xs : List Int} (h : Owns w base v xs) : ∀ k, v.ownBlock = some k → base ≤ k ∧ k < w.heap.size := World.ownsRow.lt h
theorem Bat.lt {w : World} {p : Nat} {r : Option Nat} {xs : List Int} (h : Bat w p r xs) : p < w.heap.size := by
  obtain ⟨pre, ⟨⟨v, h1, _⟩, _, _⟩, _⟩ := h
  rw [Array.getElem?_eq_some_iff] at h1; exact h1.1
theorem Bat.rlt {w : World} {p : Nat} {r : Option Nat} {xs : List Int} (h : Bat w p r xs) : ∀ k, r = some k → k < w.heap.size := by
  obtain ⟨pre, ⟨⟨v, h1, h2, h3⟩, _, _⟩, _⟩ := h
  intro k hk
  exact (h2.lt k (by rw [h3]; exact hk)).2
theorem Bat0.kept {w w' : World} {p : Nat} {r : Option Nat} {pre xs : List Int} (h : Bat0 w p r pre xs) (hp : w'.heap[p]? = w.heap[p]?) (hr : ∀ k, r = some k → w'.heap[k]? = w.heap[k]?) : Bat0 w' p r pre xs := by
  obtain ⟨v, h1, h2, h3⟩ := h.h
  exact ⟨⟨v, hp.trans h1, h2.kept (by rw [h3]; exact hr), h3⟩, h.ne, h.len⟩
theorem Bat0.quiet {w w' : World} {p : Nat} {r : Option Nat} {pre xs : List Int} (h : Bat0 w p r pre xs) (hq : Quiet w w') : Bat0 w' p r pre xs :=
  h.kept (by rw [hq.heap]) (fun _ _ => by rw [hq.heap])
theorem Bat0.drewN {w : World} {p : Nat} {r : Option Nat} {pre xs : List Int} (h : Bat0 w p r pre xs) (n : Nat) : Bat0 (w.drewN n) p r pre xs := h.quiet ⟨n, rfl⟩
theorem Bat.kept {w w' : World} {p : Nat} {r : Option Nat} {xs : List Int} (h : Bat w p r xs) (hp : w'.heap[p]? = w.heap[p]?) (hr : ∀ k, r = some k → w'.heap[k]? = w.heap[k]?) : Bat w' p r xs := by
  obtain ⟨pre, h, h4⟩ := h
  exact ⟨pre, h.kept hp hr, h4⟩
theorem Bat.below {w w' : World} {p : Nat} {r : Option Nat} {xs : List Int} (h : Bat w p r xs) (hb : Below w.heap.size w w') : Bat w' p r xs :=
  h.kept (hb.block _ h.lt) (fun k hk => hb.block _ (h.rlt k hk))
theorem Bat.quiet {w w' : World} {p : Nat} {r : Option Nat} {xs : List Int} (h : Bat w p r xs) (hb : Quiet w w') : Bat w' p r xs := h.below (hb.below _)
theorem Bat.other {w w' : World} {p q : Nat} {r s : Option Nat} {xs : List Int} (h : Bat w p r xs) (ho : OnlyO q s w w') (h1 : p ≠ q) (h2 : some p ≠ s) (h3 : ∀ k, r = some k → k ≠ q ∧ some k ≠ s) : Bat w' p r xs :=
  h.kept (ho.block _ h.lt h1 h2) (fun k hk => ho.block _ (h.rlt k hk) (h3 k hk).1 (h3 k hk).2)

/-- What 'row' hands back: a slice that reads as the row, over the batch's own block. -/
def RowPost (xs : List Int) (w : World) (e : Ending) (w' : World) : Prop := ∃ v, e = .returned v ∧ Reads w' v xs ∧ Quiet w w'

set_option maxHeartbeats 1000000 in
theorem row0 (p : Nat) (r : Option Nat) (pre xs : List Int) (w : World) (hb : Bat0 w p r pre xs) :
    Calls Try.prog 52 #[.pointer (some ⟨p, 0, none⟩)] w (RowPost xs w) := by
  obtain ⟨v, hp, ho, hr⟩ := hb.h
  have hlen := hb.len
  have k0 : w.cell? ⟨p, 0, none⟩ = some v := by simp [World.cell?, hp]
  have k1 : w.cell? ⟨p, 1, none⟩ = some (.int .i64 pre.length) := by simp [World.cell?, hp]
  have hred := ho.reads
  obtain ⟨h0, ⟨h1, h2⟩ | ⟨g, cap, cur, h1, h2, h3, h4, h5, h6, h7⟩⟩ := ho
  · have hx : pre = [] ∧ xs = [] := by simpa using h2
    obtain ⟨rfl, rfl⟩ := hx
    subst h1
    go_enter Try.func52, Try.ntmps52
    go_wp2_with fail
    go_quiet (fail)
    all_goals
      go_wp2
      go_ret
      exact ⟨_, rfl, ⟨none, 0, rfl, ⟨by simp, by unfold maxLen; omega, .inl ⟨rfl, rfl⟩⟩, fun h => absurd h (by simp)⟩, ⟨_, rfl⟩⟩
  · simp only [List.length_append] at h1 h4
    subst h1
    have hcm := h5
    unfold maxLen at hcm
    have hcm2 := hcm
    have hgl : g < w.heap.size := by rw [Array.getElem?_eq_some_iff] at h3; exact h3.1
    have hcells : ∀ j, j < xs.length → w.cell? ⟨g, pre.length + j, none⟩ = some (.int .i64 (xs.getD j 0)) := by
      obtain ⟨a', c', ha, _, hread⟩ := hred
      simp only [Value.slice.injEq] at ha
      intro j hj
      obtain ⟨g', off', hg', _, hc'⟩ := hread (by simp; omega)
      rw [hg'] at ha
      simp only [Option.some.injEq, Addr.mk.injEq] at ha
      have := hc' (pre.length + j) (by simp; omega)
      rw [← ha.1.1, ← ha.1.2.1] at this
      rw [Nat.zero_add] at this
      rw [this, List.getD_eq_getElem?_getD, List.getElem?_append_right (by omega), Nat.add_sub_cancel_left, ← List.getD_eq_getElem?_getD]
    have HC := hid hcells
    have hq0 : pre.length ≤ cap := by omega
    clear hcells hred h0 h3 h6 h7 hb hp
    by_cases hcap : pre.length = cap
    · have hx0 : xs.length = 0 := by omega
      go_enter Try.func52, Try.ntmps52
      go_wp2_with fail
      go_quiet (fail)
      all_goals
        go_wp2
        go_ret
        exact ⟨_, rfl, ⟨some ⟨g, 0, none⟩, 0, by simp [Act.tmps, hx0], ⟨by omega, by unfold maxLen; omega, .inr ⟨_, rfl⟩⟩, fun h => by omega⟩, ⟨_, rfl⟩⟩
    · have hcap' : pre.length < cap := by omega
      clear hcap
      go_enter Try.func52, Try.ntmps52
      go_wp2_with fail
      go_quiet (fail)
      all_goals
        go_wp2
        go_ret
        exact ⟨_, rfl, ⟨some ⟨g, pre.length, none⟩, cap - pre.length, rfl, ⟨by omega, by unfold maxLen; omega, .inr ⟨_, rfl⟩⟩, fun _ => ⟨g, pre.length, rfl, hgl, fun j hj => by rw [Quiet.cell ⟨_, rfl⟩]; exact HC.out j hj⟩⟩, ⟨_, rfl⟩⟩

theorem row_any (p : Nat) (r : Option Nat) (xs : List Int) (w : World) (hb : Bat w p r xs) :
    Calls Try.prog 52 #[.pointer (some ⟨p, 0, none⟩)] w (RowPost xs w) := by
  obtain ⟨pre, h, _⟩ := hb
  exact row0 p r pre xs w h

set_option maxHeartbeats 1000000 in
theorem blen0 (p : Nat) (r : Option Nat) (pre xs : List Int) (w : World) (hb : Bat0 w p r pre xs) :
    Calls Try.prog 17 #[.pointer (some ⟨p, 0, none⟩)] w fun e w' => e = .returned (.int .i64 xs.length) ∧ Quiet w w' := by
  have HB := hid hb
  clear hb
  go_enter Try.func17, Try.ntmps17
  go_wp2_with fail
  refine (row0 p r pre xs _ HB.out).mono ?_
  rintro e w' ⟨v, rfl, ⟨a, c, rfl, _, _⟩, hq⟩
  go_wp2
  go_ret
  exact ⟨rfl, hq⟩
theorem blen_any (p : Nat) (r : Option Nat) (xs : List Int) (w : World) (hb : Bat w p r xs) :
    Calls Try.prog 17 #[.pointer (some ⟨p, 0, none⟩)] w fun e w' => e = .returned (.int .i64 xs.length) ∧ Quiet w w' := by
  obtain ⟨pre, h, _⟩ := hb
  exact blen0 p r pre xs w h

/-- A new batch of the numbers xs. -/
def NewPost (xs : List Int) (w : World) (e : Ending) (w' : World) : Prop :=
  ∃ p r, e = .returned (.pointer (some ⟨p, 0, none⟩)) ∧ Bat w' p r xs ∧ w.heap.size ≤ p ∧ (∀ k, r = some k → w.heap.size ≤ k) ∧ Below w.heap.size w w'

set_option maxHeartbeats 1000000 in
theorem of_any (v : Value) (xs : List Int) (w : World) (hl : xs.length ≤ 1000000) (hr : Reads w v xs) :
    Calls Try.prog 10 #[v] w (NewPost xs w) := by
  have C := hid (clone_int v xs w (by omega) hr)
  clear hr
  go_enter Try.func10, Try.ntmps10
  go_wp2_with fail
  refine C.out.mono ?_
  rintro e w1 ⟨v', rfl, ho, hbel⟩
  obtain ⟨va, vc, rfl⟩ := ho.slice
  have hs := hbel.size
  have holt := ho.lt
  have HO := hid ho
  have HL := hid holt
  clear ho holt
  go_wp2
  go_ret
  refine ⟨w1.heap.size, (Value.slice va xs.length vc).ownBlock, rfl, ⟨[], ⟨⟨.slice va xs.length vc, Deep.blk_alloc_new _ _, ?_, rfl⟩, ?_, hl⟩, by simp⟩, hs, fun k hk => (HL.out k hk).1, hbel.alloc hs _⟩
  · exact (HO.out.mono (Nat.zero_le _)).kept (fun k hk => Below.heap_alloc _ _ _ (HL.out k hk).2)
  · intro e; have := (HL.out _ e).2; omega

/-- What 'drop' leaves. -/
def DropPost (p : Nat) (r : Option Nat) (xs : List Int) (n : Nat) (w : World) (e : Ending) (w' : World) : Prop :=
  e = .returned (.tuple #[]) ∧ ∃ r', Bat w' p r' (xs.drop n) ∧ OnlyO p r w w' ∧ (r' = r ∨ ∀ k, r' = some k → w.heap.size ≤ k)

theorem Bat0.lt {w : World} {p : Nat} {r : Option Nat} {pre xs : List Int} (h : Bat0 w p r pre xs) : p < w.heap.size := by
  obtain ⟨v, h1, _⟩ := h.h
  rw [Array.getElem?_eq_some_iff] at h1; exact h1.1
theorem Bat0.rlt {w : World} {p : Nat} {r : Option Nat} {pre xs : List Int} (h : Bat0 w p r pre xs) : ∀ k, r = some k → k < w.heap.size := by
  obtain ⟨v, h1, h2, h3⟩ := h.h
  intro k hk
  exact (h2.lt k (by rw [h3]; exact hk)).2
theorem drop_end {w w2 w3 : World} {p : Nat} {r : Option Nat} {vv : Value} {q : Int} {va : Option Addr} {vc : Nat} {ys : List Int} (hp : w3.heap[p]? = some (.cells #[vv, .int .i64 q] 34 (0, 0)))
    (ho : Owns w3 w2.heap.size (.slice va ys.length vc) ys) (hb : Below w2.heap.size w2 w3) (hs : w2.heap.size = w.heap.size) (hl : ys.length ≤ 1000000) (h2 : OnlyO p r w w2) :
    ∃ r', Bat ((w3.setCell ⟨p, 0, none⟩ (.slice va ys.length vc)).setCell ⟨p, 1, none⟩ (.int .i64 0)) p r' ys ∧ OnlyO p r w ((w3.setCell ⟨p, 0, none⟩ (.slice va ys.length vc)).setCell ⟨p, 1, none⟩ (.int .i64 0)) ∧ (r' = r ∨ ∀ k, r' = some k → w.heap.size ≤ k) := by
  have hne : ∀ k, (Value.slice va ys.length vc).ownBlock = some k → k ≠ p := by
    intro k hk e
    subst e
    obtain ⟨_, ⟨h1, _⟩ | ⟨g, cap, cur, h1, _, h3, _⟩⟩ := ho
    · rw [h1] at hk; simp [Value.ownBlock] at hk
    · rw [h1] at hk
      simp only [Value.ownBlock, Option.some.injEq] at hk
      subst hk
      rw [hp] at h3
      simp only [Option.some.injEq, Obj.cells.injEq] at h3
      exact absurd h3.2.1 (by decide)
  refine ⟨(Value.slice va ys.length vc).ownBlock, ⟨[], ⟨⟨.slice va ys.length vc, ?_, ?_, rfl⟩, fun e => hne p e rfl, hl⟩, by simp⟩, ?_, .inr fun k hk => by have := (ho.lt k hk).1; omega⟩
  · simp [World.setCell, Array.getElem?_modify, hp]
  · exact (ho.mono (Nat.zero_le _)).kept fun k hk => by
      rw [Below.heap_setCell _ _ _ _ (hne k hk), Below.heap_setCell _ _ _ _ (hne k hk)]
  · have h3 : OnlyO p r w2 w3 := .of_below hb
    refine (h2.trans (r' := r) h3 (.inl rfl)).trans (r' := r) ⟨rfl, rfl, rfl, by simp [World.setCell], fun k _ h1 _ => ?_⟩ (.inl rfl)
    rw [Below.heap_setCell _ _ _ _ h1, Below.heap_setCell _ _ _ _ h1]

set_option maxHeartbeats 2000000 in
theorem drop_any (p : Nat) (r : Option Nat) (xs : List Int) (n : Nat) (w : World) (hb : Bat w p r xs) (hn : n ≤ xs.length) :
    Calls Try.prog 53 #[.pointer (some ⟨p, 0, none⟩), .int .i64 n] w (DropPost p r xs n w) := by
  obtain ⟨pre, hb0, hpl⟩ := hb
  obtain ⟨v, hp, ho, hr⟩ := hb0.h
  have hlen := hb0.len
  obtain ⟨va, vc, rfl⟩ := ho.slice
  have k1 : w.cell? ⟨p, 1, none⟩ = some (.int .i64 pre.length) := by simp [World.cell?, hp]
  have f1 : w.frozen? ⟨p, 1, none⟩ = false := by simp [World.frozen?, hp]
  -- behind the first store
  have hsplit : pre ++ xs = (pre ++ xs.take n) ++ xs.drop n := by rw [List.append_assoc, List.take_append_drop]
  have hpl2 : ((pre ++ xs.take n).length : Int) = (pre.length : Int) + n := by simp; omega
  have hb1 : Bat0 (w.setCell ⟨p, 1, none⟩ (.int .i64 ((pre.length : Int) + n))) p r (pre ++ xs.take n) (xs.drop n) := by
    refine ⟨⟨_, ?_, ?_, hr⟩, hb0.ne, by simp; omega⟩
    · rw [hpl2]; simp [World.setCell, Array.getElem?_modify, hp]
    · rw [← hsplit]
      exact ho.kept (fun k hk => Below.heap_setCell _ _ _ _ (fun e => hb0.ne (by rw [← hr, hk, e])))
  have honly : OnlyO p r w (w.setCell ⟨p, 1, none⟩ (.int .i64 ((pre.length : Int) + n))) := ⟨rfl, rfl, rfl, by simp [World.setCell], fun k _ h1 _ => Below.heap_setCell _ _ _ _ h1⟩
  have HB1 := hid hb1
  have HO := hid honly
  obtain ⟨ys, hys⟩ : ∃ ys, ys = xs.drop n := ⟨_, rfl⟩
  obtain ⟨N, hN⟩ : ∃ N, N = (pre ++ xs).length := ⟨_, rfl⟩
  obtain ⟨pre', hpre'⟩ : ∃ q, q = pre ++ xs.take n := ⟨_, rfl⟩
  have hNl : N = pre'.length + ys.length := by rw [hN, hsplit, hpre', hys, List.length_append]
  have hNb : N ≤ 10000000 := by rw [hN]; simp; omega
  have hyl : ys.length ≤ 1000000 := by rw [hys]; simp; omega
  have hnb : n ≤ 1000000 := by omega
  have hpb : pre.length ≤ 5000000 := by omega
  rw [← hys, ← hpre'] at HB1
  have k0 : w.cell? ⟨p, 0, none⟩ = some (.slice va N vc) := by rw [hN]; simp [World.cell?, hp]
  have hys' := hid hys
  have hNl' := hid hNl
  clear hb0 hp ho hr hsplit hpl2 hb1 honly hys hN hpre' hNl hlen hpl hn
  have hw : IntKind.i64.wrap ((N : Int) / 4) = (N : Int) / 4 := IntWalk.i64_in _ (by omega)
  by_cases hc : (ys.length : Int) < (N : Int) / 4 ∨ ys.length = 0
  · have t : (decide ((ys.length : Int) < (N : Int) / 4) = true) ∨ (decide ((ys.length : Int) < (N : Int) / 4) = false ∧ ((ys.length : Int) == 0) = true) := by
      by_cases h : (ys.length : Int) < (N : Int) / 4
      · exact .inl (decide_eq_true h)
      · exact .inr ⟨decide_eq_false h, beq_iff_eq.2 (by omega)⟩
    clear hc
    rcases t with t | ⟨t, t2⟩
    all_goals
      go_enter Try.func53, Try.ntmps53
      go_wp2_with fail
      go_quiet ((go_at_call 17; exact quiet_call (blen0 p r pre' ys _ (HB1.out.drewN _))))
      all_goals
        clear hw
        go_wp2_with fail
        refine (row0 p r pre' ys _ (HB1.out.drewN _)).mono ?_
        rintro e w2 ⟨v2, rfl, hrd, hq2⟩
        have hb2 := (HB1.out.drewN _).quiet hq2
        have hsz2 : w2.heap.size = w.heap.size := by rw [hq2.heap]; simp [World.setCell, World.drewN]
        go_wp2_with fail
        refine (clone_int v2 ys _ (by omega) hrd).mono ?_
        rintro e w3 ⟨v3, rfl, ho3, hbel3⟩
        obtain ⟨va3, vc3, rfl⟩ := ho3.slice
        obtain ⟨vv, hp3, _, _⟩ := (hb2.kept (hbel3.block _ hb2.lt) (fun k hk => hbel3.block _ (hb2.rlt k hk))).h
        have c0 : w3.cell? ⟨p, 0, none⟩ = some vv := by simp [World.cell?, hp3]
        have c1 : w3.cell? ⟨p, 1, none⟩ = some (.int .i64 pre'.length) := by simp [World.cell?, hp3]
        have g0 : w3.frozen? ⟨p, 0, none⟩ = false := by simp [World.frozen?, hp3]
        have g1 : w3.frozen? ⟨p, 1, none⟩ = false := by simp [World.frozen?, hp3]
        have FIN := hid (drop_end (r := r) hp3 ho3 hbel3 hsz2 hyl (HO.out.trans (r' := r) (OnlyO.quiet (Quiet.trans ⟨_, rfl⟩ hq2)) (.inl rfl)))
        clear hp3 ho3 hrd
        go_wp2
        go_end0
        obtain ⟨r', q1, q2, q3⟩ := FIN.out
        exact ⟨rfl, r', by rw [← hys'.out]; exact q1, q2, q3⟩
  · have t : decide ((ys.length : Int) < (N : Int) / 4) = false := decide_eq_false (by omega)
    have t2 : ((ys.length : Int) == 0) = false := beq_eq_false_iff_ne.2 (by omega)
    have hsp : pre'.length ≤ 3 * ys.length + 3 := by have := hNl'.out; omega
    have HSP := hid hsp
    clear hc hsp
    go_enter Try.func53, Try.ntmps53
    go_wp2_with fail
    go_quiet ((go_at_call 17; exact quiet_call (blen0 p r pre' ys _ (HB1.out.drewN _))))
    all_goals
      clear hw
      go_wp2
      go_end0
      refine ⟨rfl, r, ⟨pre', by rw [← hys'.out]; exact HB1.out.drewN _, by rw [← hys'.out]; exact HSP.out⟩, HO.out.trans (r' := r) (OnlyO.quiet ⟨_, rfl⟩) (.inl rfl), .inl rfl⟩
end Go.Proofs.Ytpmggkngakdkhaa
