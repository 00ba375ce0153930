/- The contracts of package cell that copy and compare: slices.Clone and slices.Equal at []uint64, Copy, Same; and the nil memory. -/
import Derived.Test.YtdljacmagabilaaCell
import Derived.Deep.RegionWith
import Derived.Deep.QuietTactic
import Derived.BigQuiet
import Derived.Deep.RegionHeld3
import Derived.OwnWalk
namespace Go.Proofs.Ytdljacmagabilaa
set_option linter.unusedVariables false
open Go.RowKit

theorem clone_post {w' : World} {e : TypeId} {base : Nat} {v : Value} {n : Nat} {vs : List Value} (h : w'.ownsRow base e 1 v n vs) (hv : v ≠ .slice none 0 0) :
    ∃ g cap cur, v = .slice (some ⟨g, 0, none⟩) n cap ∧ base ≤ g ∧ w'.heap[g]? = some (.cells cur e (0, 0)) ∧ n ≤ cap ∧ cap ≤ maxLen ∧ cur.size = cap ∧ cur.toList.take n = vs := by
  obtain ⟨_, ⟨h1, _⟩ | ⟨g, cap, cur, h1, h2, h3, h4, h5, h6, h7⟩⟩ := h
  · exact absurd h1 hv
  · exact ⟨g, cap, cur, h1, h2, h3, h4, h5, by simpa using h6, by simpa using h7⟩

def CloneU64 (xs : List Int) (w : World) (e : Ending) (w' : World) : Prop :=
  ∃ g' cap' cur, e = .returned (.slice (some ⟨g', 0, none⟩) xs.length cap') ∧ w.heap.size ≤ g' ∧ w'.heap[g']? = some (.cells cur 22 (0, 0)) ∧ xs.length ≤ cap' ∧ cap' ≤ maxLen ∧ cur.size = cap' ∧ cur.toList.take xs.length = xs.map (Value.int .u64) ∧ Below w.heap.size w w'

set_option maxHeartbeats 400000 in
theorem clone_u64 (g : Nat) (n cap : Nat) (xs : List Int) (w : World) (hn : n = xs.length) (hl : xs.length ≤ 65536)
    (hc : ∀ i, i < xs.length → w.cell? ⟨g, i, none⟩ = some (.int .u64 (xs.getD i 0))) :
    Calls Try.prog 51 #[.slice (some ⟨g, 0, none⟩) n cap] w (CloneU64 xs w) := by
  subst hn
  obtain ⟨i0, hi, hz0, hz1, hz2⟩ := info_parts infoU64
  have hnil := fun (w : World) => Lib.run_eql_slice_nil (P := Try.prog) w 23 22 (some ⟨g, 0, none⟩) xs.length cap 0 0 Try.underlying23
  simp only [Option.isNone_some] at hnil
  have hown : (w.alloc (.cells #[] 22)).ownsRow w.heap.size 22 1 (.slice (some ⟨w.heap.size, 0, none⟩) 0 0) 0 [] := World.ownsRow_made w #[] 0 (Nat.le_refl _) (by omega) rfl
  have HC := hid hc
  clear hc
  go_enter Try.func51, Try.ntmps51
  go_wp2_with (at_builtin; refine wpList_append_own _ rfl _ _ 23 rfl w.heap.size 22 i0 (.int .u64 0) 1 8 Try.underlying23 hi hz0 hz1 hz2 rfl (by decide) _ _ _ rfl hown ⟨g, 0, none⟩ xs.length cap (xs.map (Value.int .u64)) rfl ?c0 ?c1 ?c2 ?c3 ?c4 ?c5 ?_)
  case c0 => simp
  case c1 =>
    intro j u hj
    rw [List.getElem?_map] at hj
    rcases hx : xs[j]? with _ | x
    · rw [hx] at hj; simp at hj
    · rw [hx] at hj
      obtain ⟨hlt, hx'⟩ := List.getElem?_eq_some_iff.1 hx
      have hcj := HC.out j hlt
      have hgb : g < w.heap.size := by
        rcases Nat.lt_or_ge g w.heap.size with h | h
        · exact h
        · simp [World.cell?, Array.getElem?_eq_none h] at hcj
      have he : (⟨g, 0, none⟩ : Addr).add j = ⟨g, j, none⟩ := by
        by_cases hj0 : j = 0
        · subst hj0; simp [Addr.add]
        · simp [Addr.add, hj0]
      rw [he, World.cell?_of_block (w := w) (Below.heap_alloc _ _ _ hgb), hcj]
      simp only [Option.map_some, Option.some.injEq] at hj
      rw [← hj, List.getD_eq_getElem?_getD, hx]; rfl
  case c2 =>
    intro u hu
    obtain ⟨x, _, rfl⟩ := List.mem_map.1 hu
    rfl
  case c3 => unfold maxLen; omega
  case c4 => omega
  case c5 => simp
  intro v' w1 hown' hgrow hnn
  obtain ⟨g', cap', cur, rfl, hg', hcur, h1, h2, h3, h4⟩ := clone_post hown' hnn
  have hbel : Below w.heap.size w w1 := ((Below.refl w.heap.size w).alloc (Nat.le_refl _) (.cells #[] 22)).grown hgrow (by simp) (fun k hk => by simp [Value.ownBlock] at hk; omega)
  clear hown hown' hgrow hnn hnil
  go_wp2
  go_ret
  exact ⟨g', cap', cur, rfl, hg', hcur, h1, h2, h3, h4, hbel⟩

def CopyPost (xs : List Int) (c : Nat) (w : World) (e : Ending) (w' : World) : Prop :=
  ∃ b' g', e = .returned (.pointer (some ⟨b', 0, none⟩)) ∧ Mem w' b' g' xs c ∧ w.heap.size ≤ b' ∧ w.heap.size ≤ g' ∧ Below w.heap.size w w'

theorem copy_end {xs : List Int} {c g' cap' : Nat} {cur : Array Value} {w w1 : World} (hl : xs.length ≤ 65536) (hc : c ≤ 1000000000)
    (q1 : w.drew.heap.size ≤ g') (q2 : w1.heap[g']? = some (.cells cur 22 (0, 0))) (q3 : xs.length ≤ cap') (q4 : cap' ≤ maxLen) (q5 : cur.size = cap') (q6 : cur.toList.take xs.length = xs.map (Value.int .u64)) (q7 : Below w.drew.heap.size w.drew w1) :
    CopyPost xs c w (.returned (.pointer (some ⟨w1.heap.size, 0, none⟩))) (w1.alloc (.cells #[.slice (some ⟨g', 0, none⟩) xs.length cap', .int .i64 c] 84)) := by
  have hlt : g' < w1.heap.size := by rw [Array.getElem?_eq_some_iff] at q2; exact q2.1
  have hs := q7.size
  refine ⟨w1.heap.size, g', rfl, ⟨⟨cap', cur, Deep.blk_alloc_new _ _, ?_, q3, q4, q5, q6⟩, by omega, hl, hc⟩, by simpa using hs, by simpa using q1, ?_⟩
  · rw [Below.heap_alloc _ _ _ hlt]; exact q2
  · exact (((Below.refl w.heap.size w).drew).trans (q7.mono (by simp))).alloc (by simpa using hs) _

set_option maxHeartbeats 400000 in
theorem copy_any (b g : Nat) (xs : List Int) (c : Nat) (w : World) (hm : Mem w b g xs c) :
    Calls Try.prog 26 #[.pointer (some ⟨b, 0, none⟩)] w (CopyPost xs c w) := by
  obtain ⟨cap, h0, _, _⟩ := hm.c0
  have h1 := hm.c1
  have sb := hm.sb
  have sg := hm.sg
  have HM := hid hm
  clear hm
  go_enter Try.func26, Try.ntmps26
  go_wp2_with fail
  go_region_with (go_at_call 51; refine (clone_u64 g _ cap xs _ rfl HM.out.len (fun i hi => by simpa using HM.out.cg i hi)).mono ?_; rintro e w1 ⟨g', cap', cur, rfl, q1, q2, q3, q4, q5, q6, q7⟩; have k1 := (q7.cell (p := ⟨b, 0, none⟩) (by simpa using sb)).trans (by simpa using h0); have k2 := (q7.cell (p := ⟨b, 1, none⟩) (by simpa using sb)).trans (by simpa using h1))
  all_goals
    go_wp2
    go_ret
    exact copy_end HM.out.len HM.out.cnt q1 q2 q3 q4 q5 q6 q7

theorem Mem.quiet {w : World} {b g : Nat} {xs : List Int} {c : Nat} (h : Mem w b g xs c) {w' : World} (q : Quiet w w') : Mem w' b g xs c :=
  h.kept (by rw [q.heap]) (by rw [q.heap])

theorem take_eq_succ {xs ys : List Int} {k : Nat} (h : xs.take k = ys.take k) (h1 : k < xs.length) (h2 : k < ys.length) (hx : xs.getD k 0 = ys.getD k 0) : xs.take (k + 1) = ys.take (k + 1) := by
  rw [List.take_succ_eq_append_getElem h1, List.take_succ_eq_append_getElem h2, h]
  simp only [List.getD_eq_getElem?_getD, List.getElem?_eq_getElem h1, List.getElem?_eq_getElem h2, Option.getD_some] at hx
  rw [hx]

theorem ret_bool {a b : Bool} (h : b = a) : Ending.returned (.bool a) = .returned (.bool b) := by rw [h]
theorem ne_of_getD {xs ys : List Int} {k : Nat} (h : xs.getD k 0 ≠ ys.getD k 0) : decide (xs = ys) = false :=
  decide_eq_false fun e => h (by rw [e])
theorem eq_of_take {xs ys : List Int} {k : Nat} (h1 : xs.length ≤ k) (h2 : ys.length ≤ k) (h : xs.take k = ys.take k) : xs = ys := by
  rwa [List.take_of_length_le h1, List.take_of_length_le h2] at h

set_option maxHeartbeats 400000 in
theorem equal_u64 (g1 g2 : Nat) (n1 c1 n2 c2 : Nat) (xs ys : List Int) (r : Bool) (w : World) (h1 : n1 = xs.length) (h2 : n2 = ys.length) (hr : r = decide (xs = ys))
    (hl1 : xs.length ≤ 65536) (hl2 : ys.length ≤ 65536)
    (hc1 : ∀ i, i < xs.length → w.cell? ⟨g1, i, none⟩ = some (.int .u64 (xs.getD i 0))) (hc2 : ∀ i, i < ys.length → w.cell? ⟨g2, i, none⟩ = some (.int .u64 (ys.getD i 0))) :
    Calls Try.prog 52 #[.slice (some ⟨g1, 0, none⟩) n1 c1, .slice (some ⟨g2, 0, none⟩) n2 c2] w fun e w' => e = .returned (.bool r) ∧ Quiet w w' := by
  subst h1 h2
  by_cases hlen : xs.length = ys.length
  · have HL := hid hlen
    have HR := hid hr
    have H1 := hid hc1
    have H2 := hid hc2
    have e1 : ((xs.length : Int) != (ys.length : Int)) = false := by rw [hlen]; simp
    clear hlen hr hc1 hc2
    go_enter Try.func52, Try.ntmps52
    go_wp2_with fail
    go_loopw [13] (fun i wr => ∃ (k : Nat), k ≤ xs.length ∧ i = .int .i64 k ∧ Quiet w wr ∧ xs.take k = ys.take k) (fun i _ => xs.length - (intOf i).toNat)
    case atStart => exact ⟨0, Nat.zero_le _, rfl, Quiet.refl _, by simp⟩
    case round =>
      obtain ⟨k, hk, rfl, hq, ht⟩ := hrel
      by_cases hlt : k < xs.length
      · have hk2 : k < ys.length := by have := HL.out; omega
        obtain ⟨x, hx⟩ : ∃ x, x = xs.getD k 0 := ⟨_, rfl⟩
        obtain ⟨y, hy⟩ : ∃ y, y = ys.getD k 0 := ⟨_, rfl⟩
        have q1 := (hq.cell ⟨g1, k, none⟩).trans (H1.out k hlt)
        have q2 := (hq.cell ⟨g2, k, none⟩).trans (H2.out k hk2)
        rw [← hx] at q1
        rw [← hy] at q2
        have HX := hid hx
        have HY := hid hy
        have HT := hid ht
        clear hx hy ht
        by_cases hxy : x = y
        · have exy : (x != y) = false := by simpa using hxy
          have HXY := hid hxy
          clear hxy
          go_wp2_with fail
          go_quiet (fail)
          all_goals
            go_wp2
            go_roundw
            case rel => exact ⟨k + 1, by omega, by go_num, hq.drewN _, take_eq_succ HT.out hlt hk2 (HX.out ▸ HY.out ▸ HXY.out)⟩
            case measure => simp [intOf]; omega
        · have exy : (x != y) = true := by simpa using hxy
          have HXY := hid hxy
          clear hxy
          go_wp2_with fail
          go_quiet (fail)
          all_goals
            go_wp2
            go_ret
            exact ⟨ret_bool (by rw [HR.out]; exact ne_of_getD (by rw [← HX.out, ← HY.out]; exact HXY.out)), hq.drewN _⟩
      · go_wp2
        go_ret
        exact ⟨ret_bool (by rw [HR.out]; exact decide_eq_true (eq_of_take (by omega) (by have := HL.out; omega) ht)), hq⟩
  · have e1 : ((xs.length : Int) != (ys.length : Int)) = true := by simp; omega
    have HR := hid hr
    have HL := hid hlen
    clear hr hlen hc1 hc2
    go_enter Try.func52, Try.ntmps52
    go_wp2
    go_ret
    exact ⟨ret_bool (by rw [HR.out]; exact (decide_eq_false (fun (h : xs = ys) => HL.out (by rw [h])))), Quiet.refl _⟩

theorem nil_eq {xs ys : List Int} (h : xs.length = ys.length) (h0 : xs.length = 0) : xs = ys := by
  have h1 : ys.length = 0 := by omega
  rw [List.length_eq_zero_iff] at h0 h1
  rw [h0, h1]

set_option maxHeartbeats 400000 in
theorem same_any (b g b' g' : Nat) (xs ys : List Int) (c c' : Nat) (r : Bool) (w : World) (hm : Mem w b g xs c) (hm' : Mem w b' g' ys c') (hr : r = decide (xs = ys)) :
    Calls Try.prog 27 #[.pointer (some ⟨b, 0, none⟩), .pointer (some ⟨b', 0, none⟩)] w fun e w' => e = .returned (.bool r) ∧ Quiet w w' := by
  have HR := hid hr
  clear hr
  by_cases hlen : xs.length = ys.length
  · have e1 : ((xs.length : Int) != (ys.length : Int)) = false := by rw [hlen]; simp
    have HL := hid hlen
    clear hlen
    obtain ⟨cap, h0, _, _⟩ := hm.c0
    obtain ⟨cap', h0', _, _⟩ := hm'.c0
    by_cases hz : xs.length = 0
    · have e2 : ((xs.length : Int) == 0) = true := by simpa using hz
      have HZ := hid hz
      clear hz
      go_enter Try.func27, Try.ntmps27
      go_wp2_with fail
      refine (len_any _ _ _ _ _ hm).mono ?_
      rintro e w' ⟨rfl, rfl⟩
      go_wp2_with fail
      refine (len_any _ _ _ _ _ hm').mono ?_
      rintro e w' ⟨rfl, rfl⟩
      go_wp2_with fail
      go_quiet ((go_at_call 24; exact quiet_call0 (len_any _ _ _ _ _ (hm.quiet ⟨_, rfl⟩))))
      all_goals
        go_wp2
        go_ret
        exact ⟨ret_bool (by rw [HR.out]; exact decide_eq_true (nil_eq HL.out HZ.out)), ⟨_, rfl⟩⟩
    · have e2 : ((xs.length : Int) == 0) = false := by simpa using hz
      have HZ := hid hz
      clear hz
      go_enter Try.func27, Try.ntmps27
      go_wp2_with fail
      refine (len_any _ _ _ _ _ hm).mono ?_
      rintro e w' ⟨rfl, rfl⟩
      go_wp2_with fail
      refine (len_any _ _ _ _ _ hm').mono ?_
      rintro e w' ⟨rfl, rfl⟩
      go_wp2_with fail
      go_quiet ((first | (go_at_call 24; exact quiet_call0 (len_any _ _ _ _ _ (hm.quiet ⟨_, rfl⟩))) | (go_at_call 52; exact quiet_call (equal_u64 g g' _ _ _ _ xs ys r _ rfl rfl HR.out hm.len hm'.len (fun i hi => by simpa using hm.cg i hi) (fun i hi => by simpa using hm'.cg i hi)))))
      all_goals
        go_wp2
        go_ret
        exact ⟨rfl, ⟨_, rfl⟩⟩
  · have e1 : ((xs.length : Int) != (ys.length : Int)) = true := by simp; omega
    have HL := hid hlen
    clear hlen
    go_enter Try.func27, Try.ntmps27
    go_wp2_with fail
    refine (len_any _ _ _ _ _ hm).mono ?_
    rintro e w' ⟨rfl, rfl⟩
    go_wp2_with fail
    refine (len_any _ _ _ _ _ hm').mono ?_
    rintro e w' ⟨rfl, rfl⟩
    go_wp2
    go_ret
    exact ⟨ret_bool (by rw [HR.out]; exact (decide_eq_false (fun (h : xs = ys) => HL.out (by rw [h])))), Quiet.refl _⟩

/-! The nil memory. -/
theorem nil_len (w : World) : Calls Try.prog 24 #[.pointer none] w fun e w' => e = .returned (.int .i64 0) ∧ w = w' := by
  go_enter Try.func24, Try.ntmps24
  go_wp2
  go_ret
  exact ⟨rfl, rfl⟩
theorem nil_count (w : World) : Calls Try.prog 25 #[.pointer none] w fun e w' => e = .returned (.int .i64 0) ∧ w = w' := by
  go_enter Try.func25, Try.ntmps25
  go_wp2
  go_ret
  exact ⟨rfl, rfl⟩
theorem nil_copy (w : World) : Calls Try.prog 26 #[.pointer none] w fun e w' => e = .returned (.pointer none) ∧ w = w' := by
  go_enter Try.func26, Try.ntmps26
  go_wp2
  go_ret
  exact ⟨rfl, rfl⟩
theorem nil_access (i : Int) (w : World) : Calls Try.prog 46 #[.pointer none, .int .i64 i] w fun e w' => e = .returned (.bool false) ∧ w = w' := by
  by_cases hi : i < 0
  all_goals
    go_enter Try.func46, Try.ntmps46
    go_wp2_with (go_at_call 24; refine (nil_len _).mono ?_; rintro e w' ⟨rfl, rfl⟩)
    go_ret
    exact ⟨rfl, rfl⟩
theorem nil_load (i : Int) (w : World) : Calls Try.prog 21 #[.pointer none, .int .i64 i] w fun e w' => e = .returned (.int .u64 0) ∧ w = w' := by
  go_enter Try.func21, Try.ntmps21
  go_wp2_with (go_at_call 46; refine (nil_access _ _).mono ?_; rintro e w' ⟨rfl, rfl⟩)
  go_ret
  exact ⟨rfl, rfl⟩
theorem nil_store (i x : Int) (w : World) : Calls Try.prog 19 #[.pointer none, .int .i64 i, .int .u64 x] w fun e w' => e = .returned (.bool false) ∧ w = w' := by
  go_enter Try.func19, Try.ntmps19
  go_wp2_with (go_at_call 46; refine (nil_access _ _).mono ?_; rintro e w' ⟨rfl, rfl⟩)
  go_ret
  exact ⟨rfl, rfl⟩
theorem nil_swap (i o x : Int) (w : World) : Calls Try.prog 20 #[.pointer none, .int .i64 i, .int .u64 o, .int .u64 x] w fun e w' => e = .returned (.bool false) ∧ w = w' := by
  go_enter Try.func20, Try.ntmps20
  go_wp2_with (go_at_call 46; refine (nil_access _ _).mono ?_; rintro e w' ⟨rfl, rfl⟩)
  go_ret
  exact ⟨rfl, rfl⟩
theorem nil_add (i d : Int) (w : World) : Calls Try.prog 28 #[.pointer none, .int .i64 i, .int .i64 d] w fun e w' => e = .returned (.int .u64 0) ∧ w = w' := by
  go_enter Try.func28, Try.ntmps28
  go_wp2_with (go_at_call 46; refine (nil_access _ _).mono ?_; rintro e w' ⟨rfl, rfl⟩)
  go_ret
  exact ⟨rfl, rfl⟩
theorem add_out (b g : Nat) (xs : List Int) (c : Nat) (i d : Int) (w : World) (hm : Mem w b g xs c) (hi : i < 0 ∨ xs.length ≤ i) :
    Calls Try.prog 28 #[.pointer (some ⟨b, 0, none⟩), .int .i64 i, .int .i64 d] w fun e w' => e = .returned (.int .u64 0) ∧ w = w' := by
  go_enter Try.func28, Try.ntmps28
  go_wp2_with (go_at_call 46; refine (access_out b g xs c i _ hm hi).mono ?_; rintro e w' ⟨rfl, rfl⟩)
  go_ret
  exact ⟨rfl, rfl⟩
theorem nil_same (b g : Nat) (xs : List Int) (c : Nat) (w : World) (hm : Mem w b g xs c) (h0 : xs.length = 0) :
    Calls Try.prog 27 #[.pointer none, .pointer (some ⟨b, 0, none⟩)] w fun e w' => e = .returned (.bool true) ∧ Quiet w w' := by
  have L := len_any b g xs c
  rw [h0] at L
  go_enter Try.func27, Try.ntmps27
  go_wp2_with fail
  refine (nil_len _).mono ?_
  rintro e w' ⟨rfl, rfl⟩
  go_wp2_with fail
  refine (L _ hm).mono ?_
  rintro e w' ⟨rfl, rfl⟩
  go_wp2_with fail
  go_quiet ((go_at_call 24; exact quiet_call0 (nil_len _)))
  all_goals
    go_wp2
    go_ret
    exact ⟨rfl, ⟨_, rfl⟩⟩

/-! The same contracts, the numbers under names of the caller's own. -/
theorem len_n (b g : Nat) (xs : List Int) (c : Nat) (n : Int) (w : World) (hm : Mem w b g xs c) (hn : (xs.length : Int) = n) :
    Calls Try.prog 24 #[.pointer (some ⟨b, 0, none⟩)] w fun e w' => e = .returned (.int .i64 n) ∧ w = w' := by
  subst hn
  exact len_any b g xs c w hm
theorem load_v (b g : Nat) (xs : List Int) (c : Nat) (i v : Int) (w : World) (hm : Mem w b g xs c) (hc : c < 1000000000) (hi0 : 0 ≤ i) (hi : i < xs.length) (hv : xs.getD i.toNat 0 = v) :
    Calls Try.prog 21 #[.pointer (some ⟨b, 0, none⟩), .int .i64 i] w fun e w' => e = .returned (.int .u64 v) ∧ Mem w' b g xs (c + 1) ∧ Only b g w w' := by
  subst hv
  exact load_in b g xs c i w hm hc hi0 hi
theorem add_v (b g : Nat) (xs : List Int) (c : Nat) (i d v : Int) (w : World) (hm : Mem w b g xs c) (hc : c < 1000000000) (hi0 : 0 ≤ i) (hi : i < xs.length) (hv : IntKind.u64.wrap (xs.getD i.toNat 0 + IntKind.u64.wrap d) = v) :
    Calls Try.prog 28 #[.pointer (some ⟨b, 0, none⟩), .int .i64 i, .int .i64 d] w fun e w' => e = .returned (.int .u64 v) ∧ Mem w' b g (xs.set i.toNat v) (c + 1) ∧ Only b g w w' := by
  subst hv
  exact add_in b g xs c i d w hm hc hi0 hi
theorem getD_set_eq {xs : List Int} {i : Nat} {v : Int} (h : i < xs.length) : (xs.set i v).getD i 0 = v := by
  simp [List.getD_eq_getElem?_getD, h]
theorem getD_set_ne {xs : List Int} {i j : Nat} {v : Int} (h : i ≠ j) : (xs.set i v).getD j 0 = xs.getD j 0 := by
  simp [h]
theorem getD_replicate0 (k j : Nat) : (List.replicate k (0 : Int)).getD j 0 = 0 := by
  simp [List.getD_eq_getElem?_getD, List.getElem?_replicate]; split <;> rfl
theorem new_z (n : Int) (k : Nat) (hk : (k : Int) = min (max n 0) 65536) (w : World) :
    Calls Try.prog 18 #[.int .i64 n] w fun e w' => ∃ b g xs, e = .returned (.pointer (some ⟨b, 0, none⟩)) ∧ Mem w' b g xs 0 ∧ xs.length = k ∧ (∀ j, xs.getD j 0 = 0) ∧ w.heap.size ≤ b ∧ w.heap.size ≤ g ∧ Below w.heap.size w w' :=
  (new_ex n k hk w).mono fun _ _ ⟨b, g, he, hm, hb, hg, h⟩ => ⟨b, g, List.replicate k 0, he, hm, by simp, getD_replicate0 k, hb, hg, h⟩

/-! The same contracts without a case: a word that isn't there is 0, and stays so. -/
def putAt (xs : List Int) (i x : Int) : List Int := if 0 ≤ i ∧ i < xs.length then xs.set i.toNat x else xs
def getAt (xs : List Int) (i : Int) : Int := if 0 ≤ i ∧ i < xs.length then xs.getD i.toNat 0 else 0
theorem putAt_length (xs : List Int) (i x : Int) : (putAt xs i x).length = xs.length := by unfold putAt; split <;> simp
def StoreGen (b g : Nat) (xs : List Int) (c : Nat) (i x : Int) (w : World) (e : Ending) (w' : World) : Prop :=
  ∃ (r : Bool) (c' : Nat), e = .returned (.bool r) ∧ Mem w' b g (putAt xs i x) c' ∧ c' ≤ c + 1 ∧ Only b g w w'
theorem store_gen (b g : Nat) (xs : List Int) (c : Nat) (i x : Int) (w : World) (hm : Mem w b g xs c) (hc : c < 1000000000) :
    Calls Try.prog 19 #[.pointer (some ⟨b, 0, none⟩), .int .i64 i, .int .u64 x] w (StoreGen b g xs c i x w) := by
  by_cases h : 0 ≤ i ∧ i < xs.length
  · exact (store_in b g xs c i x w hm hc h.1 h.2).mono fun e w' ⟨he, h1, h2⟩ => ⟨true, c + 1, he, by unfold putAt; rw [if_pos h]; exact h1, Nat.le_refl _, h2⟩
  · exact (store_out b g xs c i x w hm (by omega)).mono fun e w' ⟨he, h1⟩ => ⟨false, c, he, by unfold putAt; rw [if_neg h, ← h1]; exact hm, by omega, by rw [← h1]; exact Only.refl _ _ _⟩
def LoadGen (b g : Nat) (xs : List Int) (c : Nat) (i : Int) (w : World) (e : Ending) (w' : World) : Prop :=
  ∃ (c' : Nat), e = .returned (.int .u64 (getAt xs i)) ∧ Mem w' b g xs c' ∧ c' ≤ c + 1 ∧ Only b g w w'
theorem load_gen (b g : Nat) (xs : List Int) (c : Nat) (i : Int) (w : World) (hm : Mem w b g xs c) (hc : c < 1000000000) :
    Calls Try.prog 21 #[.pointer (some ⟨b, 0, none⟩), .int .i64 i] w (LoadGen b g xs c i w) := by
  by_cases h : 0 ≤ i ∧ i < xs.length
  · exact (load_in b g xs c i w hm hc h.1 h.2).mono fun e w' ⟨he, h1, h2⟩ => ⟨c + 1, by unfold getAt; rw [if_pos h]; exact he, h1, Nat.le_refl _, h2⟩
  · exact (load_out b g xs c i w hm (by omega)).mono fun e w' ⟨he, h1⟩ => ⟨c, by unfold getAt; rw [if_neg h]; exact he, by rw [← h1]; exact hm, by omega, by rw [← h1]; exact Only.refl _ _ _⟩
def SwapNo (b g : Nat) (xs : List Int) (c : Nat) (w : World) (e : Ending) (w' : World) : Prop :=
  ∃ (c' : Nat), e = .returned (.bool false) ∧ Mem w' b g xs c' ∧ c' ≤ c + 1 ∧ Only b g w w'
theorem swap_not (b g : Nat) (xs : List Int) (c : Nat) (i o x : Int) (w : World) (hm : Mem w b g xs c) (hc : c < 1000000000) (hne : getAt xs i ≠ o) :
    Calls Try.prog 20 #[.pointer (some ⟨b, 0, none⟩), .int .i64 i, .int .u64 o, .int .u64 x] w (SwapNo b g xs c w) := by
  by_cases h : 0 ≤ i ∧ i < xs.length
  · unfold getAt at hne
    rw [if_pos h] at hne
    exact (swap_no b g xs c i o x w hm hc h.1 h.2 hne).mono fun e w' ⟨he, h1, h2⟩ => ⟨c + 1, he, h1, Nat.le_refl _, h2⟩
  · exact (swap_out b g xs c i o x w hm (by omega)).mono fun e w' ⟨he, h1⟩ => ⟨c, he, by rw [← h1]; exact hm, by omega, by rw [← h1]; exact Only.refl _ _ _⟩
end Go.Proofs.Ytdljacmagabilaa
