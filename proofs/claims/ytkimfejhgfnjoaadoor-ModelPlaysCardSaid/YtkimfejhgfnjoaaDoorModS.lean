/- model.Model's isAt and do. -/
import Derived.Test.YtkimfejhgfnjoaaDoorModR
namespace Go.Proofs.YtkimfejhgfnjoaaDoor
open Go.RowKit
set_option linter.unusedVariables false
set_option linter.unusedSimpArgs false
variable {w : World} {lo hi b b1 b2 b3 : Nat} {s : Ms}

set_option maxHeartbeats 4000000 in
theorem mat_none (h : Mp w b b1 b2 b3 s) (k g m p v : Int) (hr : s.ru m = none) :
    Calls Tryd.prog 25 #[.pointer (some ⟨b, 0, none⟩), .agg #[.int .i64 k, .int .i64 g, .int .i64 m, .int .i64 p, .int .i64 v]] w fun e w' => e = .returned (.bool false) ∧ Below w.heap.size w w' := by
  have hb := hid (bl_ad w (.cells #[.int .i64 k, .int .i64 g, .int .i64 m, .int .i64 p, .int .i64 v] 30))
  have HA := hid (h.below hb.out)
  have HB := hid (fun o => HA.out.below (bl_ad _ o))
  have c4 : (w.alloc (.cells #[.int .i64 k, .int .i64 g, .int .i64 m, .int .i64 p, .int .i64 v] 30)).drew.cell? ⟨b, 4, none⟩ = some (.map (some b2)) := cell_md HA.out.drew.box rfl
  have d4 : ((w.alloc (.cells #[.int .i64 k, .int .i64 g, .int .i64 m, .int .i64 p, .int .i64 v] 30)).alloc (.cells #[.int .i64 0, .int .i64 0] 64)).drew.cell? ⟨b, 4, none⟩ = some (.map (some b2)) := cell_md (HB.out _).drew.box rfl
  have L := HA.out.drew.look2 m
  have L2 := (HB.out (.cells #[.int .i64 0, .int .i64 0] 64)).drew.look2 m
  rw [hr] at L L2
  simp only [Option.getD_none, Option.isSome_none] at L L2
  clear h hr
  go_enter Tryd.func25, Tryd.ntmps25
  go_wp2_with fail
  go_region
  all_goals
    have hB1 := hid ((bl_ad _ (.cells #[.int .i64 0, .int .i64 0] 64)).trans (bl_dr _ _) : Below (w.alloc (.cells #[.int .i64 k, .int .i64 g, .int .i64 m, .int .i64 p, .int .i64 v] 30)).heap.size _ _)
    have hB2 := hid (hb.out.trans (hB1.out.mono hb.out.size))
    clear L L2 c4 d4
    go_wp2
    go_ret
    exact ⟨rfl, hB2.out⟩
set_option maxHeartbeats 4000000 in
theorem mat_some (h : Mp w b b1 b2 b3 s) (k g m p v : Int) (x y : Int) (hr : s.ru m = some (x, y)) :
    Calls Tryd.prog 25 #[.pointer (some ⟨b, 0, none⟩), .agg #[.int .i64 k, .int .i64 g, .int .i64 m, .int .i64 p, .int .i64 v]] w fun e w' => e = .returned (.bool ((x == g) && (y == p))) ∧ Below w.heap.size w w' := by
  have hb := hid (bl_ad w (.cells #[.int .i64 k, .int .i64 g, .int .i64 m, .int .i64 p, .int .i64 v] 30))
  have HA := hid (h.below hb.out)
  have HB := hid (fun o => HA.out.below (bl_ad _ o))
  have c4 : (w.alloc (.cells #[.int .i64 k, .int .i64 g, .int .i64 m, .int .i64 p, .int .i64 v] 30)).drew.cell? ⟨b, 4, none⟩ = some (.map (some b2)) := cell_md HA.out.drew.box rfl
  have d4 : ((w.alloc (.cells #[.int .i64 k, .int .i64 g, .int .i64 m, .int .i64 p, .int .i64 v] 30)).alloc (.cells #[.int .i64 0, .int .i64 0] 64)).drew.cell? ⟨b, 4, none⟩ = some (.map (some b2)) := cell_md (HB.out _).drew.box rfl
  have L := HA.out.drew.look2 m
  have L2 := (HB.out (.cells #[.int .i64 0, .int .i64 0] 64)).drew.look2 m
  rw [hr] at L L2
  simp only [Option.getD_some, Option.isSome_some] at L L2
  clear h hr
  by_cases h1 : x = g
  · subst h1
    have e1 : (x == x) = true := by simp
    by_cases h2 : y = p
    · subst h2
      have e2 : (y == y) = true := by simp
      rw [e1, e2]
      go_enter Tryd.func25, Tryd.ntmps25
      go_wp2_with fail
      go_region
      all_goals
        have hB1 := hid ((bl_ad _ (.cells #[.int .i64 x, .int .i64 y] 64)).trans (bl_dr _ _) : Below (w.alloc (.cells #[.int .i64 k, .int .i64 x, .int .i64 m, .int .i64 y, .int .i64 v] 30)).heap.size _ _)
        have hB2 := hid (hb.out.trans (hB1.out.mono hb.out.size))
        clear L L2 c4 d4
        go_wp2
        go_ret
        exact ⟨rfl, hB2.out⟩
    · have e2 : (y == p) = false := by simpa using h2
      rw [e1, e2]
      clear h2
      go_enter Tryd.func25, Tryd.ntmps25
      go_wp2_with fail
      go_region
      all_goals
        have hB1 := hid ((bl_ad _ (.cells #[.int .i64 x, .int .i64 y] 64)).trans (bl_dr _ _) : Below (w.alloc (.cells #[.int .i64 k, .int .i64 x, .int .i64 m, .int .i64 p, .int .i64 v] 30)).heap.size _ _)
        have hB2 := hid (hb.out.trans (hB1.out.mono hb.out.size))
        clear L L2 c4 d4
        go_wp2
        go_ret
        exact ⟨rfl, hB2.out⟩
  · have e1 : (x == g) = false := by simpa using h1
    rw [e1]
    clear h1
    go_enter Tryd.func25, Tryd.ntmps25
    go_wp2_with fail
    go_region
    all_goals
      have hB1 := hid ((bl_ad _ (.cells #[.int .i64 x, .int .i64 y] 64)).trans (bl_dr _ _) : Below (w.alloc (.cells #[.int .i64 k, .int .i64 g, .int .i64 m, .int .i64 p, .int .i64 v] 30)).heap.size _ _)
      have hB2 := hid (hb.out.trans (hB1.out.mono hb.out.size))
      clear L L2 c4 d4
      go_wp2
      go_ret
      exact ⟨rfl, hB2.out⟩
theorem mat_any (h : Mp w b b1 b2 b3 s) (k g m p v : Int) :
    Calls Tryd.prog 25 #[.pointer (some ⟨b, 0, none⟩), .agg #[.int .i64 k, .int .i64 g, .int .i64 m, .int .i64 p, .int .i64 v]] w fun e w' => e = .returned (.bool (isAtB s g m p)) ∧ Below w.heap.size w w' := by
  unfold isAtB
  rcases hr : s.ru m with _ | ⟨x, y⟩
  · exact mat_none h k g m p v hr
  · have := mat_some h k g m p v x y hr
    have e : decide (some (x, y) = some (g, p)) = ((x == g) && (y == p)) := by
      by_cases h1 : x = g <;> by_cases h2 : y = p <;> simp [h1, h2]
    rw [e]
    exact this
end Go.Proofs.YtkimfejhgfnjoaaDoor
