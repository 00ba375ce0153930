/- The contract of cell.Memory.Copy (slices.Clone at []uint64), for a seat without Same; Add where there is no such word. -/
import Derived.Test.YtdbionbdcjpmaaaCell
import Derived.Deep.RegionWith
import Derived.Deep.QuietTactic
import Derived.BigQuiet
import Derived.Deep.RegionHeld3
import Derived.OwnWalk
namespace Go.Proofs.Ytdbionbdcjpmaaa
set_option linter.unusedVariables false
open Go.RowKit

theorem clone_post {w' : World} {e : TypeId} {base : Nat} {v : Value} {n : Nat} {vs : List Value} (h : w'.ownsRow base e 1 v n vs) (hv : v ≠ .slice none 0 0) :
    ∃ g cap cur, v = .slice (some ⟨g, 0, none⟩) n cap ∧ base ≤ g ∧ w'.heap[g]? = some (.cells cur e (0, 0)) ∧ n ≤ cap ∧ cap ≤ maxLen ∧ cur.size = cap ∧ cur.toList.take n = vs := by
  obtain ⟨_, ⟨h1, _⟩ | ⟨g, cap, cur, h1, h2, h3, h4, h5, h6, h7⟩⟩ := h
  · exact absurd h1 hv
  · exact ⟨g, cap, cur, h1, h2, h3, h4, h5, by simpa using h6, by simpa using h7⟩

def CloneU64 (xs : List Int) (w : World) (e : Ending) (w' : World) : Prop :=
  ∃ g' cap' cur, e = .returned (.slice (some ⟨g', 0, none⟩) xs.length cap') ∧ w.heap.size ≤ g' ∧ w'.heap[g']? = some (.cells cur 30 (0, 0)) ∧ xs.length ≤ cap' ∧ cap' ≤ maxLen ∧ cur.size = cap' ∧ cur.toList.take xs.length = xs.map (Value.int .u64) ∧ Below w.heap.size w w'

set_option maxHeartbeats 400000 in
theorem clone_u64 (g : Nat) (n cap : Nat) (xs : List Int) (w : World) (hn : n = xs.length) (hl : xs.length ≤ 65536)
    (hc : ∀ i, i < xs.length → w.cell? ⟨g, i, none⟩ = some (.int .u64 (xs.getD i 0))) :
    Calls Try.prog 31 #[.slice (some ⟨g, 0, none⟩) n cap] w (CloneU64 xs w) := by
  subst hn
  obtain ⟨i0, hi, hz0, hz1, hz2⟩ := info_parts infoU64
  have hnil := fun (w : World) => Lib.run_eql_slice_nil (P := Try.prog) w 26 30 (some ⟨g, 0, none⟩) xs.length cap 0 0 Try.underlying26
  simp only [Option.isNone_some] at hnil
  have hown : (w.alloc (.cells #[] 30)).ownsRow w.heap.size 30 1 (.slice (some ⟨w.heap.size, 0, none⟩) 0 0) 0 [] := World.ownsRow_made w #[] 0 (Nat.le_refl _) (by omega) rfl
  have HC := hid hc
  clear hc
  go_enter Try.func31, Try.ntmps31
  go_wp2_with (at_builtin; refine wpList_append_own _ rfl _ _ 26 rfl w.heap.size 30 i0 (.int .u64 0) 1 8 Try.underlying26 hi hz0 hz1 hz2 rfl (by decide) _ _ _ rfl hown ⟨g, 0, none⟩ xs.length cap (xs.map (Value.int .u64)) rfl ?c0 ?c1 ?c2 ?c3 ?c4 ?c5 ?_)
  case c0 => simp
  case c1 =>
    intro j u hj
    rw [List.getElem?_map] at hj
    rcases hx : xs[j]? with _ | x
    · rw [hx] at hj; simp at hj
    · rw [hx] at hj
      obtain ⟨hlt, hx'⟩ := List.getElem?_eq_some_iff.1 hx
      have hcj := HC.out j hlt
      have hgb : g < w.heap.size := by
        rcases Nat.lt_or_ge g w.heap.size with h | h
        · exact h
        · simp [World.cell?, Array.getElem?_eq_none h] at hcj
      have he : (⟨g, 0, none⟩ : Addr).add j = ⟨g, j, none⟩ := by
        by_cases hj0 : j = 0
        · subst hj0; simp [Addr.add]
        · simp [Addr.add, hj0]
      rw [he, World.cell?_of_block (w := w) (Below.heap_alloc _ _ _ hgb), hcj]
      simp only [Option.map_some, Option.some.injEq] at hj
      rw [← hj, List.getD_eq_getElem?_getD, hx]; rfl
  case c2 =>
    intro u hu
    obtain ⟨x, _, rfl⟩ := List.mem_map.1 hu
    rfl
  case c3 => unfold maxLen; omega
  case c4 => omega
  case c5 => simp
  intro v' w1 hown' hgrow hnn
  obtain ⟨g', cap', cur, rfl, hg', hcur, h1, h2, h3, h4⟩ := clone_post hown' hnn
  have hbel : Below w.heap.size w w1 := ((Below.refl w.heap.size w).alloc (Nat.le_refl _) (.cells #[] 30)).grown hgrow (by simp) (fun k hk => by simp [Value.ownBlock] at hk; omega)
  clear hown hown' hgrow hnn hnil
  go_wp2
  go_ret
  exact ⟨g', cap', cur, rfl, hg', hcur, h1, h2, h3, h4, hbel⟩

def CopyPost (xs : List Int) (c : Nat) (w : World) (e : Ending) (w' : World) : Prop :=
  ∃ b' g', e = .returned (.pointer (some ⟨b', 0, none⟩)) ∧ Mem w' b' g' xs c ∧ w.heap.size ≤ b' ∧ w.heap.size ≤ g' ∧ Below w.heap.size w w'

theorem copy_end {xs : List Int} {c g' cap' : Nat} {cur : Array Value} {w w1 : World} (hl : xs.length ≤ 65536) (hc : c ≤ 1000000000)
    (q1 : w.drew.heap.size ≤ g') (q2 : w1.heap[g']? = some (.cells cur 30 (0, 0))) (q3 : xs.length ≤ cap') (q4 : cap' ≤ maxLen) (q5 : cur.size = cap') (q6 : cur.toList.take xs.length = xs.map (Value.int .u64)) (q7 : Below w.drew.heap.size w.drew w1) :
    CopyPost xs c w (.returned (.pointer (some ⟨w1.heap.size, 0, none⟩))) (w1.alloc (.cells #[.slice (some ⟨g', 0, none⟩) xs.length cap', .int .i64 c] 60)) := by
  have hlt : g' < w1.heap.size := by rw [Array.getElem?_eq_some_iff] at q2; exact q2.1
  have hs := q7.size
  refine ⟨w1.heap.size, g', rfl, ⟨⟨cap', cur, Deep.blk_alloc_new _ _, ?_, q3, q4, q5, q6⟩, by omega, hl, hc⟩, by simpa using hs, by simpa using q1, ?_⟩
  · rw [Below.heap_alloc _ _ _ hlt]; exact q2
  · exact (((Below.refl w.heap.size w).drew).trans (q7.mono (by simp))).alloc (by simpa using hs) _

set_option maxHeartbeats 400000 in
theorem copy_any (b g : Nat) (xs : List Int) (c : Nat) (w : World) (hm : Mem w b g xs c) :
    Calls Try.prog 12 #[.pointer (some ⟨b, 0, none⟩)] w (CopyPost xs c w) := by
  obtain ⟨cap, h0, _, _⟩ := hm.c0
  have h1 := hm.c1
  have sb := hm.sb
  have sg := hm.sg
  have HM := hid hm
  clear hm
  go_enter Try.func12, Try.ntmps12
  go_wp2_with fail
  go_region_with (go_at_call 31; refine (clone_u64 g _ cap xs _ rfl HM.out.len (fun i hi => by simpa using HM.out.cg i hi)).mono ?_; rintro e w1 ⟨g', cap', cur, rfl, q1, q2, q3, q4, q5, q6, q7⟩; have k1 := (q7.cell (p := ⟨b, 0, none⟩) (by simpa using sb)).trans (by simpa using h0); have k2 := (q7.cell (p := ⟨b, 1, none⟩) (by simpa using sb)).trans (by simpa using h1))
  all_goals
    go_wp2
    go_ret
    exact copy_end HM.out.len HM.out.cnt q1 q2 q3 q4 q5 q6 q7

set_option maxHeartbeats 400000 in
theorem add_out (b g : Nat) (xs : List Int) (c : Nat) (i d : Int) (w : World) (hm : Mem w b g xs c) (hi : i < 0 ∨ xs.length ≤ i) :
    Calls Try.prog 24 #[.pointer (some ⟨b, 0, none⟩), .int .i64 i, .int .i64 d] w fun e w' => e = .returned (.int .u64 0) ∧ w = w' := by
  go_enter Try.func24, Try.ntmps24
  go_wp2_with (go_at_call 32; refine (access_out b g xs c i _ hm hi).mono ?_; rintro e w' ⟨rfl, rfl⟩)
  go_ret
  exact ⟨rfl, rfl⟩
end Go.Proofs.Ytdbionbdcjpmaaa
