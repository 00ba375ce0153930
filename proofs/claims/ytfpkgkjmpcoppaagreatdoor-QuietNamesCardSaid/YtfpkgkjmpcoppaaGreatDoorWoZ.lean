/- A world of one behind ten steps: its events are two. -/
import Derived.Test.YtfpkgkjmpcoppaaGreatDoorWoY
namespace Go.Proofs.YtfpkgkjmpcoppaaGreatDoor
open Go.RowKit
set_option linter.unusedVariables false
set_option linter.unusedSimpArgs false
set_option maxRecDepth 20000
/-- A slice of so many events is answered. -/
def EvsP (n : Nat) (w : World) (e : Ending) (w' : World) : Prop := ∃ a c, e = .returned (.slice a n c) ∧ Below w.heap.size w w'
set_option maxHeartbeats 4000000 in
theorem clone_ev (ad : Addr) (n c : Nat) (us : List Value) (w : World) (hn : n < 1000) (hl : us.length = n * 5) (hc : ∀ j u, us[j]? = some u → w.cell? (ad.add j) = some u) (h1 : ∀ u ∈ us, u.oneCell' = true) :
    Calls Tryz.prog 78 #[.slice (some ad) n c] w (EvsP n w) := by
  obtain ⟨i0, hi, hz0, hz1, hz2⟩ := info_parts infoEv
  have hnil := fun (w : World) => Lib.run_eql_slice_nil (P := Tryz.prog) w 33 147 (some ad) n c 0 0 Tryz.underlying33
  simp only [Option.isNone_some] at hnil
  have hown : (w.alloc (.cells #[] 147)).ownsRow w.heap.size 147 5 (.slice (some ⟨w.heap.size, 0, none⟩) 0 0) 0 [] := World.ownsRow_made w #[] 0 (Nat.le_refl _) (by omega) rfl
  have HN := hid (fun j u (hj : us[j]? = some u) => (show (w.alloc (.cells #[] 147)).cell? (ad.add j) = some u from by
    have := hc j u hj
    rw [← this]
    exact World.cell?_of_block (Below.heap_alloc _ _ _ (cell_lt this))))
  have H1 := hid h1
  have HL := hid hl
  have HNN := hid hn
  clear hc h1 hl hn
  go_enter Tryz.func78, Tryz.ntmps78
  go_wp2_with (at_builtin; refine wpList_append_own _ rfl _ _ 33 rfl w.heap.size 147 i0 _ 5 40 Tryz.underlying33 hi hz0 hz1 hz2 rfl (by decide) _ _ _ rfl hown ad n c us rfl ?c0 ?c1 ?c2 ?c3 ?c4 ?c5 ?_)
  case c0 => exact HL.out
  case c1 => exact HN.out
  case c2 => exact H1.out
  case c3 => have := HNN.out; unfold maxLen; omega
  case c4 => have := HNN.out; omega
  case c5 => simp
  intro v' w1 hown' hgrow hne
  have hbel : Below w.heap.size w w1 := ((Below.refl w.heap.size w).alloc (Nat.le_refl _) (.cells #[] 147)).grown hgrow (by simp) (fun k hk => by simp [Value.ownBlock] at hk; omega)
  obtain ⟨_, ⟨e, _⟩ | ⟨gq, cap, cur, e, _⟩⟩ := hown'
  · exact absurd e hne
  subst e
  have HB := hid hbel
  clear hown hgrow hnil hne hbel HN H1 HL
  go_wp2
  go_ret
  exact ⟨_, _, rfl, HB.out⟩
theorem len_b (w : World) (p o : Nat) (a : Option Addr) (n c : Nat) (h : w.cell? ⟨p, o, none⟩ = some (.slice a n c)) :
    Calls Tryz.prog 79 #[.pointer (some ⟨p, o, none⟩)] w fun e w' => e = .returned (.int .i64 n) ∧ w' = w := by
  go_enter Tryz.func79, Tryz.ntmps79
  go_wp2
  go_ret
  exact ⟨rfl, rfl⟩
set_option maxHeartbeats 8000000 in
theorem from_0 (w : World) (p o base : Nat) (v : Value) (xs : List Value) (hc : w.cell? ⟨p, o, none⟩ = some v) (h : Lg w base v 2 xs) (h1 : ∀ u ∈ xs, u.oneCell' = true) :
    Calls Tryz.prog 44 #[.pointer (some ⟨p, o, none⟩), .int .i64 0] w (EvsP 2 w) := by
  have hcs := fun g => h.own.cells (g := g)
  obtain ⟨hl, ⟨e, h2⟩ | ⟨gq, cap, cur, e, _, hg, hcap, hcm, _⟩⟩ := h.own
  · exact absurd h2 (by omega)
  subst e
  have hpl := cell_lt hc
  have hgl := blk_lt hg
  have hcc : (cap : Int) ≤ 9223372036854775807 := by unfold maxLen at hcm; omega
  have h2c : (2 : Int) ≤ (cap : Int) := by omega
  have LN := hid (fun (y : World) (hq : Quiet w y) => (len_b y p o _ 2 cap (by obtain ⟨n, rfl⟩ := hq; exact hc)))
  have CL := hid (fun (y : World) (hb : Below w.heap.size w y) => (clone_ev ⟨gq, 0, none⟩ 2 cap xs y (by omega) hl (fun j u hj => by
    have := hcs gq rfl j u hj
    exact (hb.cell (p := (⟨gq, 0, none⟩ : Addr).add j) (cell_lt this)).trans this) h1).mono (R' := EvsP 2 w) (fun e w' ⟨a, c, he, hb'⟩ => ⟨a, c, he, hb.trans (hb'.mono hb.size)⟩))
  clear hl hg hcs h h1 hgl
  go_enter Tryz.func44, Tryz.ntmps44
  go_wp2_with fail
  go_region_with (first
    | (go_at_call 79; refine (LN.out _ ⟨1, rfl⟩).mono ?_; rintro e y ⟨rfl, rfl⟩)
    | (go_at_call 78; refine (CL.out _ (Quiet.below ⟨1, rfl⟩ _)).mono ?_; rintro e y5 ⟨a5, c5, rfl, hb5⟩))
  all_goals
    have HB5 := hid hb5
    clear hb5
    go_wp2
    go_ret
    exact ⟨_, _, rfl, HB5.out⟩
section
variable {w w' : World} {W b1 b2 rb tb q sb ib mb rc : Nat} {lg : Value}
set_option maxHeartbeats 4000000 in
theorem wevents (h : Wb w W b1 b2 rb tb q sb ib mb rc lg) {base : Nat} {xs : List Value} (hg : Lg w base lg 2 xs) (h1 : ∀ u ∈ xs, u.oneCell' = true) :
    Calls Tryz.prog 12 #[.pointer (some ⟨W, 0, none⟩)] w (EvsP 2 w) := by
  have FR := hid (from_0 w W 15 base lg xs h.c15 hg h1)
  clear h hg h1
  go_enter Tryz.func12, Tryz.ntmps12
  go_wp2_with fail
  refine FR.out.mono ?_
  rintro e w2 ⟨a, c, rfl, hb⟩
  have HB := hid hb
  clear hb FR
  go_wp2
  go_ret
  exact ⟨_, _, rfl, HB.out⟩
end
end Go.Proofs.YtfpkgkjmpcoppaaGreatDoor
