/- quiet.Name: each fault's name. -/
import Derived.Test.YtfpkgkjmpcoppaaGreatDoorPre1
import Derived.Test.YtfpkgkjmpcoppaaGreatDoorMaps
import Derived.Test.YtfpkgkjmpcoppaaGreatDoorLives20
namespace Go.Proofs.YtfpkgkjmpcoppaaGreatDoor
open Go.RowKit
set_option linter.unusedVariables false
set_option linter.unusedSimpArgs false
set_option maxRecDepth 20000
/-- A fault's name. -/
def nm (f : Int) : ByteArray :=
  if f = 0 then ⟨#[97, 119, 97, 107, 101]⟩ else
  if f = 1 then ⟨#[115, 112, 105, 110]⟩ else
  if f = 2 then ⟨#[103, 105, 118, 101, 110]⟩ else
  if f = 3 then ⟨#[108, 111, 115, 116]⟩ else
  if f = 4 then ⟨#[108, 97, 116, 101]⟩ else
  if f = 5 then ⟨#[117, 110, 115, 101, 101, 110]⟩ else
  if f = 6 then ⟨#[107, 101, 112, 116]⟩ else
  ⟨#[]⟩
theorem zeroStr (w : World) : (zeroValue 9).run Tryz.prog w = .ok (.string ⟨#[]⟩) w := by
  first | rfl | kernel_rfl | go_simp
set_option maxHeartbeats 2000000 in
theorem qname (f : Int) (w : World) : Calls Tryz.prog 26 #[.int .i64 f] w fun e w' => e = .returned (.string (nm f)) ∧ Below w.heap.size w w' := by
  have mk : ∀ T (w : World), (Instr.makeMap T none).run Tryz.prog w = .ok (.map (some w.heap.size)) (w.alloc (.map #[] 0)) := fun T w => rfl
  have hm : Tryz.prog.underlying 117 = some (.map 62 9) := Tryz.underlying117
  have hd : Tryz.prog.underlying 62 = some (.int .i64) := Tryz.underlying62
  have M0 := MapI.new w .i64
  have b0 : Below w.heap.size w (w.alloc (.map #[] 0)) := (Below.refl _ _).alloc (Nat.le_refl _) _
  obtain ⟨w1, u1, M1, o1⟩ := M0.store hm hd 0 (.string ⟨#[97, 119, 97, 107, 101]⟩)
  have b1 : Below w.heap.size w w1 := b0.trans (o1.below2 (Nat.le_refl _) (Nat.le_refl _) b0.size)
  obtain ⟨w2, u2, M2, o2⟩ := M1.store hm hd 1 (.string ⟨#[115, 112, 105, 110]⟩)
  have b2 : Below w.heap.size w w2 := b1.trans (o2.below2 (Nat.le_refl _) (Nat.le_refl _) b1.size)
  obtain ⟨w3, u3, M3, o3⟩ := M2.store hm hd 2 (.string ⟨#[103, 105, 118, 101, 110]⟩)
  have b3 : Below w.heap.size w w3 := b2.trans (o3.below2 (Nat.le_refl _) (Nat.le_refl _) b2.size)
  obtain ⟨w4, u4, M4, o4⟩ := M3.store hm hd 3 (.string ⟨#[108, 111, 115, 116]⟩)
  have b4 : Below w.heap.size w w4 := b3.trans (o4.below2 (Nat.le_refl _) (Nat.le_refl _) b3.size)
  obtain ⟨w5, u5, M5, o5⟩ := M4.store hm hd 4 (.string ⟨#[108, 97, 116, 101]⟩)
  have b5 : Below w.heap.size w w5 := b4.trans (o5.below2 (Nat.le_refl _) (Nat.le_refl _) b4.size)
  obtain ⟨w6, u6, M6, o6⟩ := M5.store hm hd 5 (.string ⟨#[117, 110, 115, 101, 101, 110]⟩)
  have b6 : Below w.heap.size w w6 := b5.trans (o6.below2 (Nat.le_refl _) (Nat.le_refl _) b5.size)
  obtain ⟨w7, u7, M7, o7⟩ := M6.store hm hd 6 (.string ⟨#[107, 101, 112, 116]⟩)
  have b7 : Below w.heap.size w w7 := b6.trans (o7.below2 (Nat.le_refl _) (Nat.le_refl _) b6.size)
  have LK : (Instr.lookup 117 (.map (some w.heap.size)) (.int .i64 f) false).run Tryz.prog w7 = .ok (.string (nm f)) w7 := by
    by_cases h0 : f = 0
    · subst h0
      exact M7.look_hit hm hd (v := .string ⟨#[97, 119, 97, 107, 101]⟩) (by simp [updG]) false
    · by_cases h1 : f = 1
      · subst h1
        exact M7.look_hit hm hd (v := .string ⟨#[115, 112, 105, 110]⟩) (by simp [updG]) false
      · by_cases h2 : f = 2
        · subst h2
          exact M7.look_hit hm hd (v := .string ⟨#[103, 105, 118, 101, 110]⟩) (by simp [updG]) false
        · by_cases h3 : f = 3
          · subst h3
            exact M7.look_hit hm hd (v := .string ⟨#[108, 111, 115, 116]⟩) (by simp [updG]) false
          · by_cases h4 : f = 4
            · subst h4
              exact M7.look_hit hm hd (v := .string ⟨#[108, 97, 116, 101]⟩) (by simp [updG]) false
            · by_cases h5 : f = 5
              · subst h5
                exact M7.look_hit hm hd (v := .string ⟨#[117, 110, 115, 101, 101, 110]⟩) (by simp [updG]) false
              · by_cases h6 : f = 6
                · subst h6
                  exact M7.look_hit hm hd (v := .string ⟨#[107, 101, 112, 116]⟩) (by simp [updG]) false
                · have e : nm f = ⟨#[]⟩ := by simp [nm, h0, h1, h2, h3, h4, h5, h6]
                  rw [e]
                  exact M7.look_miss hm hd zeroStr (by simp [updG, h0, h1, h2, h3, h4, h5, h6]) false
  have FB := hid b7
  clear hm hd M0 M1 M2 M3 M4 M5 M6 M7 o1 o2 o3 o4 o5 o6 o7 b0 b1 b2 b3 b4 b5 b6 b7
  go_enter Tryz.func26, Tryz.ntmps26
  go_wp2
  go_ret
  exact ⟨rfl, FB.out⟩
end Go.Proofs.YtfpkgkjmpcoppaaGreatDoor
