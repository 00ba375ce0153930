/- bound.B, bound.F of any config, and the document's. -/
import Derived.Test.YtfpkgkjmpcoppaaGreatDoorWgE
import Derived.IntWalk
import Derived.Deep.RegionHeld3
namespace Go.Proofs.YtfpkgkjmpcoppaaGreatDoor
open Go.RowKit
set_option linter.unusedVariables false
set_option linter.unusedSimpArgs false
set_option maxRecDepth 20000
/-- The tables that world.New reads. -/
structure Tb (w : World) : Prop where
  d : DbTab w
  n : EvNames w
  s : EvSteps w
theorem Tb.at {w w' : World} (h : Tb w) (hb : Below w.heap.size w w') : Tb w' := ⟨h.d.at hb, h.n.at hb, h.s.at hb⟩
theorem wnew_tb (p m g : Int) (hok : OkC p m g) (w : World) (T : Tb w) :
    Calls Tryz.prog 9 #[.agg #[.int .i64 p, .int .i64 m, .int .i64 g]] w fun e w' => ∃ x, e = .returned (.tuple #[.pointer (some ⟨x, 0, none⟩), .int .i64 0]) ∧ Nw0 w p.toNat m.toNat g x w' :=
  wnew_gen p m g hok w T.d T.n T.s T.n.lt T.s.lt
theorem bright (p m g : Int) (w : World) (T : Tb w) : Calls Tryz.prog 58 #[.agg #[.int .i64 p, .int .i64 m, .int .i64 g]] w fun e w' => e = .returned (.bool (decide (OkC p m g))) ∧ Below w.heap.size w w' := by
  have b0 := hid (bla w (.cells #[.int .i64 p, .int .i64 m, .int .i64 g] 24))
  have T0 := hid (T.at b0.out)
  clear T
  by_cases h : OkC p m g
  · rw [decide_eq_true h]
    have HN := hid (fun y T => wnew_tb p m g h y T)
    clear h
    go_enter Tryz.func58, Tryz.ntmps58
    go_wp2_with fail
    refine (HN.out _ T0.out).mono ?_
    rintro e y ⟨x, rfl, hb, _⟩
    have FN := hid (b0.out.trans (hb.mono b0.out.size))
    clear hb b0 HN
    go_wp2
    go_ret
    exact ⟨rfl, FN.out⟩
  · rw [decide_eq_false h]
    have HN := hid (fun y => wnew_no p m g h y)
    clear h
    go_enter Tryz.func58, Tryz.ntmps58
    go_wp2_with fail
    refine (HN.out _).mono ?_
    rintro e y ⟨rfl, hb⟩
    have FN := hid (b0.out.trans (hb.mono b0.out.size))
    clear hb b0 HN
    go_wp2
    go_ret
    exact ⟨rfl, FN.out⟩
theorem mulb {a b A B : Int} (a0 : 0 ≤ a) (a1 : a ≤ A) (b0 : 0 ≤ b) (b1 : b ≤ B) : 0 ≤ a * b ∧ a * b ≤ A * B := ⟨Int.mul_nonneg a0 b0, Int.mul_le_mul a1 b1 b0 (by omega)⟩
def Bv (p m g : Int) : Int := if OkC p m g then 64 * (m + 4) * ((p + 8) * (p + 8) + g) else 0
/-- How long a goroutine runs, as far as it is told. -/
def hd (k : Int) : Int := if k < 1 then 1 else if 1048576 < k then 1048576 else k
theorem hd_in (k : Int) : 1 ≤ hd k ∧ hd k ≤ 1048576 := by
  unfold hd
  split
  · omega
  · split <;> omega
def Fv (p m g k : Int) : Int := if OkC p m g then 64 * (g + 8) * (hd k + 8) * (m + 4) * (p + 8) else 0
/-- What of B's products stays in range. -/
theorem b_in {p m g : Int} (h : OkC p m g) : (0 ≤ (p + 8) * (p + 8) ∧ (p + 8) * (p + 8) ≤ 5184) ∧ (0 < 64 * (m + 4) * ((p + 8) * (p + 8) + g) ∧ 64 * (m + 4) * ((p + 8) * (p + 8) + g) ≤ 8448 * 9280) := by
  obtain ⟨h1, h2, h3, h4, h5, h6⟩ := h
  have a := mulb (show 0 ≤ p + 8 by omega) (show p + 8 ≤ 72 by omega) (show 0 ≤ p + 8 by omega) (show p + 8 ≤ 72 by omega)
  refine ⟨⟨a.1, by omega⟩, Int.mul_pos (by omega) (by omega), (mulb (show 0 ≤ 64 * (m + 4) by omega) (show 64 * (m + 4) ≤ 8448 by omega) (show 0 ≤ (p + 8) * (p + 8) + g by omega) (by omega)).2⟩
theorem f_in {p m g : Int} (h : OkC p m g) (k : Int) (hk : 1 ≤ k ∧ k ≤ 1048576) : (0 < 64 * (g + 8) * (k + 8) ∧ 64 * (g + 8) * (k + 8) ≤ 262656 * 1048584) ∧ (0 < 64 * (g + 8) * (k + 8) * (m + 4) ∧ 64 * (g + 8) * (k + 8) * (m + 4) ≤ 262656 * 1048584 * 132) ∧ (0 < 64 * (g + 8) * (k + 8) * (m + 4) * (p + 8) ∧ 64 * (g + 8) * (k + 8) * (m + 4) * (p + 8) ≤ 262656 * 1048584 * 132 * 72) := by
  obtain ⟨h1, h2, h3, h4, h5, h6⟩ := h
  have a0 : 0 < 64 * (g + 8) * (k + 8) := Int.mul_pos (by omega) (by omega)
  have a := (mulb (show 0 ≤ 64 * (g + 8) by omega) (show 64 * (g + 8) ≤ 262656 by omega) (show 0 ≤ k + 8 by omega) (show k + 8 ≤ 1048584 by omega)).2
  have b0 : 0 < 64 * (g + 8) * (k + 8) * (m + 4) := Int.mul_pos a0 (by omega)
  have b := (mulb (Int.le_of_lt a0) a (show 0 ≤ m + 4 by omega) (show m + 4 ≤ 132 by omega)).2
  have c0 : 0 < 64 * (g + 8) * (k + 8) * (m + 4) * (p + 8) := Int.mul_pos b0 (by omega)
  have c := (mulb (Int.le_of_lt b0) b (show 0 ≤ p + 8 by omega) (show p + 8 ≤ 72 by omega)).2
  exact ⟨⟨a0, a⟩, ⟨b0, b⟩, ⟨c0, c⟩⟩
/-- B's products, one by one. -/
theorem b_ch {p m g : Int} (h : OkC p m g) : ∃ a b c d e V, IntKind.i64.wrap (m + 4) = a ∧ IntKind.i64.wrap (64 * a) = b ∧ IntKind.i64.wrap (p + 8) = c ∧ IntKind.i64.wrap (c * c) = d ∧ IntKind.i64.wrap (d + g) = e ∧ IntKind.i64.wrap (b * e) = V ∧ Bv p m g = V := by
  obtain ⟨⟨a1, a2⟩, a3, a4⟩ := b_in h
  refine ⟨m + 4, 64 * (m + 4), p + 8, (p + 8) * (p + 8), (p + 8) * (p + 8) + g, 64 * (m + 4) * ((p + 8) * (p + 8) + g), ?_, ?_, ?_, ?_, ?_, ?_, if_pos h⟩ <;> obtain ⟨h1, h2, h3, h4, h5, h6⟩ := h <;> exact IntWalk.i64_in _ (by omega)
theorem f_ch {p m g : Int} (h : OkC p m g) (k d : Int) (hk : hd k = d) : ∃ a b c e f q r V, IntKind.i64.wrap (g + 8) = a ∧ IntKind.i64.wrap (64 * a) = b ∧ IntKind.i64.wrap (d + 8) = c ∧ IntKind.i64.wrap (b * c) = e ∧ IntKind.i64.wrap (m + 4) = f ∧ IntKind.i64.wrap (e * f) = q ∧ IntKind.i64.wrap (p + 8) = r ∧ IntKind.i64.wrap (q * r) = V ∧ Fv p m g k = V := by
  have hr := hd_in k
  rw [hk] at hr
  obtain ⟨⟨a1, a2⟩, ⟨a3, a4⟩, ⟨a5, a6⟩⟩ := f_in h d hr
  refine ⟨g + 8, 64 * (g + 8), d + 8, 64 * (g + 8) * (d + 8), m + 4, 64 * (g + 8) * (d + 8) * (m + 4), p + 8, 64 * (g + 8) * (d + 8) * (m + 4) * (p + 8), ?_, ?_, ?_, ?_, ?_, ?_, ?_, ?_, ?_⟩
  case _ => obtain ⟨h1, h2, h3, h4, h5, h6⟩ := h; exact IntWalk.i64_in _ (by omega)
  case _ => obtain ⟨h1, h2, h3, h4, h5, h6⟩ := h; exact IntWalk.i64_in _ (by omega)
  case _ => obtain ⟨h1, h2, h3, h4, h5, h6⟩ := h; exact IntWalk.i64_in _ (by omega)
  case _ => obtain ⟨h1, h2, h3, h4, h5, h6⟩ := h; exact IntWalk.i64_in _ (by omega)
  case _ => obtain ⟨h1, h2, h3, h4, h5, h6⟩ := h; exact IntWalk.i64_in _ (by omega)
  case _ => obtain ⟨h1, h2, h3, h4, h5, h6⟩ := h; exact IntWalk.i64_in _ (by omega)
  case _ => obtain ⟨h1, h2, h3, h4, h5, h6⟩ := h; exact IntWalk.i64_in _ (by omega)
  case _ => obtain ⟨h1, h2, h3, h4, h5, h6⟩ := h; exact IntWalk.i64_in _ (by omega)
  case _ => rw [← hk]; exact if_pos h
theorem fv_mono {p m g k k' : Int} (h : hd k ≤ hd k') : Fv p m g k ≤ Fv p m g k' := by
  unfold Fv
  by_cases ho : OkC p m g
  · rw [if_pos ho, if_pos ho]
    obtain ⟨h1, h2, h3, h4, h5, h6⟩ := ho
    have a : 64 * (g + 8) * (hd k + 8) ≤ 64 * (g + 8) * (hd k' + 8) := Int.mul_le_mul_of_nonneg_left (by omega) (by omega)
    exact Int.mul_le_mul_of_nonneg_right (Int.mul_le_mul_of_nonneg_right a (by omega)) (by omega)
  · rw [if_neg ho, if_neg ho]; exact Int.le_refl _
theorem hd_mono (k : Int) : hd k ≤ hd (min k 1073741824 + 1) := by
  unfold hd
  split <;> split <;> (try split) <;> (try split) <;> omega
theorem bheld (k : Int) (w : World) : Calls Tryz.prog 59 #[.int .i64 k] w fun e w' => e = .returned (.int .i64 (hd k)) ∧ w' = w := by
  by_cases h1 : k < 1
  · rw [show hd k = 1 by unfold hd; rw [if_pos h1]]
    go_enter Tryz.func59, Tryz.ntmps59
    go_wp2
    go_ret
    exact ⟨rfl, rfl⟩
  · by_cases h2 : 1048576 < k
    · rw [show hd k = 1048576 by unfold hd; rw [if_neg h1, if_pos h2]]
      go_enter Tryz.func59, Tryz.ntmps59
      go_wp2
      go_ret
      exact ⟨rfl, rfl⟩
    · rw [show hd k = k by unfold hd; rw [if_neg h1, if_neg h2]]
      go_enter Tryz.func59, Tryz.ntmps59
      go_wp2
      go_ret
      exact ⟨rfl, rfl⟩
set_option maxHeartbeats 1000000 in
theorem bB (p m g : Int) (w : World) (T : Tb w) : Calls Tryz.prog 28 #[.agg #[.int .i64 p, .int .i64 m, .int .i64 g]] w fun e w' => e = .returned (.int .i64 (Bv p m g)) ∧ Below w.heap.size w w' := by
  have b0 := hid (bla w (.cells #[.int .i64 p, .int .i64 m, .int .i64 g] 24))
  have X0 := hid (heap_alloc_new w (.cells #[.int .i64 p, .int .i64 m, .int .i64 g] 24))
  have HR := hid (bright p m g _ (T.at b0.out))
  clear T
  by_cases h : OkC p m g
  · rw [decide_eq_true h] at HR
    obtain ⟨a, b, c, d, e', V, e1, e2, e3, e4, e5, e6, EV⟩ := b_ch h
    rw [EV]
    clear EV h
    go_enter Tryz.func28, Tryz.ntmps28
    go_wp2_with fail
    refine HR.out.mono ?_
    rintro e y ⟨rfl, hb⟩
    have Y0 := (hb.block _ (blk_lt X0.out)).trans X0.out
    have c0 : y.cell? ⟨w.heap.size, 0, none⟩ = some (.int .i64 p) := blk_cell Y0 rfl
    have c1 : y.cell? ⟨w.heap.size, 1, none⟩ = some (.int .i64 m) := blk_cell Y0 rfl
    have c2 : y.cell? ⟨w.heap.size, 2, none⟩ = some (.int .i64 g) := blk_cell Y0 rfl
    have FN := hid (b0.out.trans (hb.mono b0.out.size))
    clear hb b0 HR X0 Y0
    go_wp2
    go_ret
    exact ⟨rfl, FN.out⟩
  · rw [decide_eq_false h] at HR
    rw [show Bv p m g = 0 from if_neg h]
    clear h
    go_enter Tryz.func28, Tryz.ntmps28
    go_wp2_with fail
    refine HR.out.mono ?_
    rintro e y ⟨rfl, hb⟩
    have FN := hid (b0.out.trans (hb.mono b0.out.size))
    clear hb b0 HR X0
    go_wp2
    go_ret
    exact ⟨rfl, FN.out⟩
set_option maxHeartbeats 1000000 in
theorem bF (p m g k : Int) (w : World) (T : Tb w) : Calls Tryz.prog 29 #[.agg #[.int .i64 p, .int .i64 m, .int .i64 g], .int .i64 k] w fun e w' => e = .returned (.int .i64 (Fv p m g k)) ∧ Below w.heap.size w w' := by
  have b0 := hid (bla w (.cells #[.int .i64 p, .int .i64 m, .int .i64 g] 24))
  have X0 := hid (heap_alloc_new w (.cells #[.int .i64 p, .int .i64 m, .int .i64 g] 24))
  have HR := hid (bright p m g _ (T.at b0.out))
  clear T
  by_cases h : OkC p m g
  · rw [decide_eq_true h] at HR
    have HH := hid (fun y => bheld k y)
    obtain ⟨d, hdd⟩ : ∃ d, d = hd k := ⟨_, rfl⟩
    rw [← hdd] at HH
    obtain ⟨a, b, c, e', f, q, r, V, e1, e2, e3, e4, e5, e6, e7, e8, EV⟩ := f_ch h k d hdd.symm
    rw [EV]
    clear EV h hdd
    go_enter Tryz.func29, Tryz.ntmps29
    go_wp2_with fail
    refine HR.out.mono ?_
    rintro e y ⟨rfl, hb⟩
    have Y0 := (hb.block _ (blk_lt X0.out)).trans X0.out
    have c0 : y.cell? ⟨w.heap.size, 0, none⟩ = some (.int .i64 p) := blk_cell Y0 rfl
    have c1 : y.cell? ⟨w.heap.size, 1, none⟩ = some (.int .i64 m) := blk_cell Y0 rfl
    have c2 : y.cell? ⟨w.heap.size, 2, none⟩ = some (.int .i64 g) := blk_cell Y0 rfl
    have FN := hid (b0.out.trans (hb.mono b0.out.size))
    clear hb b0 HR X0 Y0
    go_wp2_with fail
    have d0 : y.drew.cell? ⟨w.heap.size, 0, none⟩ = some (.int .i64 p) := c0
    have d1 : y.drew.cell? ⟨w.heap.size, 1, none⟩ = some (.int .i64 m) := c1
    have d2 : y.drew.cell? ⟨w.heap.size, 2, none⟩ = some (.int .i64 g) := c2
    go_region_held3 (fun y => y.cell? ⟨w.heap.size, 0, none⟩ = some (.int .i64 p) ∧ y.cell? ⟨w.heap.size, 1, none⟩ = some (.int .i64 m) ∧ y.cell? ⟨w.heap.size, 2, none⟩ = some (.int .i64 g))
      (first
        | with_reducible exact ⟨d0, d1, d2⟩)
      (first
        | (go_at_call 59; (with_reducible refine (HH.out _).mono ?_); rintro e y2 ⟨rfl, hy2⟩; subst y2))
    all_goals
      go_wp2
      go_ret
      exact ⟨rfl, FN.out.trans (Quiet.below ⟨1, rfl⟩ _)⟩
  · rw [decide_eq_false h] at HR
    rw [show Fv p m g k = 0 from if_neg h]
    clear h
    go_enter Tryz.func29, Tryz.ntmps29
    go_wp2_with fail
    refine HR.out.mono ?_
    rintro e y ⟨rfl, hb⟩
    have FN := hid (b0.out.trans (hb.mono b0.out.size))
    clear hb b0 HR X0
    go_wp2
    go_ret
    exact ⟨rfl, FN.out⟩
/-- The document's. -/
theorem rmay (p m g : Int) (w : World) : Calls Tryz.prog 32 #[.int .i64 p, .int .i64 m, .int .i64 g] w fun e w' => e = .returned (.bool (decide (OkC p m g))) ∧ w' = w := by
  have key : ∀ b, decide (OkC p m g) = b → Calls Tryz.prog 32 #[.int .i64 p, .int .i64 m, .int .i64 g] w (fun e w' => e = .returned (.bool b) ∧ w' = w) → Calls Tryz.prog 32 #[.int .i64 p, .int .i64 m, .int .i64 g] w (fun e w' => e = .returned (.bool (decide (OkC p m g))) ∧ w' = w) := fun b hb hc => by rw [hb]; exact hc
  by_cases h1 : 1 ≤ p
  · by_cases h2 : p ≤ 64
    · by_cases h3 : p ≤ m
      · by_cases h4 : m ≤ 128
        · by_cases h5 : 1 ≤ g
          · by_cases h6 : g ≤ 4096
            · refine key true (decide_eq_true ⟨h1, h2, h3, h4, h5, h6⟩) ?_
              clear key
              go_enter Tryz.func32, Tryz.ntmps32
              go_wp2
              go_ret
              exact ⟨rfl, rfl⟩
            · refine key false (decide_eq_false (fun h => h6 h.2.2.2.2.2)) ?_
              clear key
              go_enter Tryz.func32, Tryz.ntmps32
              go_wp2
              go_ret
              exact ⟨rfl, rfl⟩
          · refine key false (decide_eq_false (fun h => h5 h.2.2.2.2.1)) ?_
            clear key
            go_enter Tryz.func32, Tryz.ntmps32
            go_wp2
            go_ret
            exact ⟨rfl, rfl⟩
        · refine key false (decide_eq_false (fun h => h4 h.2.2.2.1)) ?_
          clear key
          go_enter Tryz.func32, Tryz.ntmps32
          go_wp2
          go_ret
          exact ⟨rfl, rfl⟩
      · refine key false (decide_eq_false (fun h => h3 h.2.2.1)) ?_
        clear key
        go_enter Tryz.func32, Tryz.ntmps32
        go_wp2
        go_ret
        exact ⟨rfl, rfl⟩
    · refine key false (decide_eq_false (fun h => h2 h.2.1)) ?_
      clear key
      go_enter Tryz.func32, Tryz.ntmps32
      go_wp2
      go_ret
      exact ⟨rfl, rfl⟩
  · refine key false (decide_eq_false (fun h => h1 h.1)) ?_
    clear key
    go_enter Tryz.func32, Tryz.ntmps32
    go_wp2
    go_ret
    exact ⟨rfl, rfl⟩
set_option maxHeartbeats 1000000 in
theorem rB (p m g : Int) (w : World) : Calls Tryz.prog 30 #[.int .i64 p, .int .i64 m, .int .i64 g] w fun e w' => e = .returned (.int .i64 (Bv p m g)) ∧ w' = w := by
  have HR := hid (rmay p m g w)
  by_cases h : OkC p m g
  · rw [decide_eq_true h] at HR
    obtain ⟨a, b, c, d, e', V, e1, e2, e3, e4, e5, e6, EV⟩ := b_ch h
    rw [EV]
    clear EV h
    go_enter Tryz.func30, Tryz.ntmps30
    go_wp2_with fail
    refine HR.out.mono ?_
    rintro e y ⟨rfl, hy⟩
    subst y
    clear HR
    go_wp2
    go_ret
    exact ⟨rfl, rfl⟩
  · rw [decide_eq_false h] at HR
    rw [show Bv p m g = 0 from if_neg h]
    clear h
    go_enter Tryz.func30, Tryz.ntmps30
    go_wp2_with fail
    refine HR.out.mono ?_
    rintro e y ⟨rfl, hy⟩
    subst y
    clear HR
    go_wp2
    go_ret
    exact ⟨rfl, rfl⟩
theorem rF_c (p m g k d : Int) (w : World) (h : OkC p m g) (hk : hd k = d) (hc : (k < 1 ∧ d = 1) ∨ (¬ k < 1 ∧ 1048576 < k ∧ d = 1048576) ∨ (¬ k < 1 ∧ ¬ 1048576 < k ∧ d = k)) : Calls Tryz.prog 31 #[.int .i64 p, .int .i64 m, .int .i64 g, .int .i64 k] w fun e w' => e = .returned (.int .i64 (Fv p m g k)) ∧ w' = w := by
  have HR := hid (rmay p m g w)
  rw [decide_eq_true h] at HR
  obtain ⟨a, b, c, e', f, q, r, V, e1, e2, e3, e4, e5, e6, e7, e8, EV⟩ := f_ch h k d hk
  rw [EV]
  clear EV h hk
  rcases hc with ⟨c1, rfl⟩ | ⟨c1, c2, rfl⟩ | ⟨c1, c2, rfl⟩
  · simp only [Int.reduceAdd] at e3
    go_enter Tryz.func31, Tryz.ntmps31
    go_wp2_with fail
    refine HR.out.mono ?_
    rintro e y ⟨rfl, hy⟩
    subst y
    clear HR
    go_wp2
    go_ret
    exact ⟨rfl, rfl⟩
  · simp only [Int.reduceAdd] at e3
    go_enter Tryz.func31, Tryz.ntmps31
    go_wp2_with fail
    refine HR.out.mono ?_
    rintro e y ⟨rfl, hy⟩
    subst y
    clear HR
    go_wp2
    go_ret
    exact ⟨rfl, rfl⟩
  · go_enter Tryz.func31, Tryz.ntmps31
    go_wp2_with fail
    refine HR.out.mono ?_
    rintro e y ⟨rfl, hy⟩
    subst y
    clear HR
    go_wp2
    go_ret
    exact ⟨rfl, rfl⟩
set_option maxHeartbeats 1000000 in
theorem rF (p m g k : Int) (w : World) : Calls Tryz.prog 31 #[.int .i64 p, .int .i64 m, .int .i64 g, .int .i64 k] w fun e w' => e = .returned (.int .i64 (Fv p m g k)) ∧ w' = w := by
  by_cases h : OkC p m g
  · refine rF_c p m g k _ w h rfl ?_
    unfold hd
    by_cases h1 : k < 1
    · exact .inl ⟨h1, if_pos h1⟩
    · by_cases h2 : 1048576 < k
      · exact .inr (.inl ⟨h1, h2, by rw [if_neg h1, if_pos h2]⟩)
      · exact .inr (.inr ⟨h1, h2, by rw [if_neg h1, if_neg h2]⟩)
  · have HR := hid (rmay p m g w)
    rw [decide_eq_false h] at HR
    rw [show Fv p m g k = 0 from if_neg h]
    clear h
    go_enter Tryz.func31, Tryz.ntmps31
    go_wp2_with fail
    refine HR.out.mono ?_
    rintro e y ⟨rfl, hy⟩
    subst y
    clear HR
    go_wp2
    go_ret
    exact ⟨rfl, rfl⟩
end Go.Proofs.YtfpkgkjmpcoppaaGreatDoor
