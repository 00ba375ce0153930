/- slices.Clone at entries, Heap.List. -/
import Derived.Test.YtaogpodncphpjaaPre1
import Derived.OwnWalk
namespace Go.Proofs.Ytaogpodncphpjaa
set_option linter.unusedVariables false
set_option linter.unusedSimpArgs false
open Go.RowKit

theorem fl_at {es : List (Int × Int × Int)} {j : Nat} {u : Value} (h : (fl es)[j]? = some u) : ∃ i r, i < es.length ∧ r < 3 ∧ j = i * 3 + r ∧ (ent (enAt es i))[r]? = some u := by
  have hj : j < es.length * 3 := by rw [← fl_len]; exact (List.getElem?_eq_some_iff.1 h).1
  obtain ⟨h0, h1, h2⟩ := fl_get es (j / 3) (by omega)
  have hr : j % 3 = 0 ∨ j % 3 = 1 ∨ j % 3 = 2 := by omega
  rcases hr with e | e | e
  · rw [show j = j / 3 * 3 by omega, h0] at h
    exact ⟨j / 3, 0, by omega, by omega, by omega, h⟩
  · rw [show j = j / 3 * 3 + 1 by omega, h1] at h
    exact ⟨j / 3, 1, by omega, by omega, by omega, h⟩
  · rw [show j = j / 3 * 3 + 2 by omega, h2] at h
    exact ⟨j / 3, 2, by omega, by omega, by omega, h⟩
theorem fl_ones (es : List (Int × Int × Int)) : ∀ u ∈ fl es, u.oneCell' = true := by
  intro u hu
  obtain ⟨e, _, he⟩ := List.mem_flatMap.1 hu
  simp [ent] at he
  rcases he with rfl | rfl | rfl <;> rfl
/-- What a copy is. -/
def Cl3 (es : List (Int × Int × Int)) (w : World) (x : Ending) (w' : World) : Prop :=
  ∃ v, x = .returned v ∧ w'.ownsRow w.heap.size 88 3 v es.length (fl es) ∧ Below w.heap.size w w'
set_option maxHeartbeats 4000000 in
theorem hclone_some (g off n c : Nat) (es : List (Int × Int × Int)) (w : World) (hn : n = es.length) (hl : es.length ≤ 100000) (hg : g < w.heap.size)
    (hc : ∀ i, i < es.length → w.cell? ⟨g, off + i * 3, none⟩ = some (.int .i64 (enAt es i).1) ∧ w.cell? ⟨g, off + i * 3 + 1, none⟩ = some (.int .u64 (enAt es i).2.1) ∧ w.cell? ⟨g, off + i * 3 + 2, none⟩ = some (.int .i64 (enAt es i).2.2)) :
    Calls Try.prog 81 #[.slice (some ⟨g, off, none⟩) n c] w (Cl3 es w) := by
  obtain ⟨i0, hi, hz0, hz1, hz2⟩ := info_parts infoEnt
  have hnil := fun (w : World) => Lib.run_eql_slice_nil (P := Try.prog) w 98 88 (some ⟨g, off, none⟩) n c 0 0 Try.underlying98
  simp only [Option.isNone_some] at hnil
  have hown : (w.alloc (.cells #[] 88)).ownsRow w.heap.size 88 3 (.slice (some ⟨w.heap.size, 0, none⟩) 0 0) 0 [] := World.ownsRow_made w #[] 0 (Nat.le_refl _) (by omega) rfl
  have HC := hid hc
  have HI := hid hi
  have HG := hid hg
  have HN := hid hn
  have HL := hid hl
  clear hc hi hg hn hl
  go_enter Try.func81, Try.ntmps81
  go_wp2_with (at_builtin; refine wpList_append_own _ rfl _ _ 98 rfl w.heap.size 88 i0 _ 3 24 Try.underlying98 HI.out hz0 hz1 hz2 rfl (by decide) _ _ _ rfl hown ⟨g, off, none⟩ n c (fl es) rfl ?k0 ?k1 ?k2 ?k3 ?k4 ?k5 ?_)
  case k0 => rw [fl_len, HN.out]
  case k1 =>
    intro j u hj
    obtain ⟨i, r, h1, h2, rfl, h4⟩ := fl_at hj
    have hgb := HG.out
    have he : (⟨g, off, none⟩ : Addr).add (i * 3 + r) = ⟨g, off + i * 3 + r, none⟩ := by
      rw [Addr.add_lit, Nat.add_assoc]
    rw [he, World.cell?_of_block (w := w) (Below.heap_alloc _ _ _ hgb)]
    obtain ⟨c0, c1, c2⟩ := HC.out i h1
    match r, h2, h4 with
    | 0, _, h4 => simp [ent] at h4; subst h4; exact c0
    | 1, _, h4 => simp [ent] at h4; subst h4; exact c1
    | 2, _, h4 => simp [ent] at h4; subst h4; exact c2
  case k2 => exact fl_ones es
  case k3 => have := HN.out; have := HL.out; unfold maxLen; omega
  case k4 => have := HN.out; have := HL.out; omega
  case k5 => simp
  intro v' w1 hown' hgrow hnn
  have hbel : Below w.heap.size w w1 := ((Below.refl w.heap.size w).alloc (Nat.le_refl _) (.cells #[] 88)).grown hgrow (by simp) (fun k hk => by simp [Value.ownBlock] at hk; omega)
  have H := hid (show w1.ownsRow w.heap.size 88 3 v' es.length (fl es) by rw [← HN.out]; exact hown')
  have HB := hid hbel
  clear hown hown' hgrow hnn hnil hbel
  go_wp2
  go_ret
  exact ⟨v', rfl, H.out, HB.out⟩
set_option maxHeartbeats 4000000 in
theorem hclone_nil (w : World) :
    Calls Try.prog 81 #[.slice none 0 0] w (Cl3 [] w) := by
  have hnil := fun (w : World) => Lib.run_eql_slice_nil (P := Try.prog) w 98 88 none 0 0 0 0 Try.underlying98
  simp only [Option.isNone_none] at hnil
  go_enter Try.func81, Try.ntmps81
  go_wp2
  go_ret
  exact ⟨_, rfl, ⟨by simp [fl], .inl ⟨rfl, rfl⟩⟩, Below.refl _ _⟩
set_option maxHeartbeats 4000000 in
theorem hlist (w : World) (base p : Nat) (v : Value) (es : List (Int × Int × Int)) (h : Hp w base p v es) :
    Calls Try.prog 77 #[.pointer (some ⟨p, 0, none⟩)] w (Cl3 es w) := by
  have c0 := h.c0
  have CL : Hid (Calls Try.prog 81 #[v] w (Cl3 es w)) := by
    obtain ⟨_, ⟨h1, h2⟩ | ⟨g, cap, cur, h1, h2, h3, h4, h5, h6, h7⟩⟩ := h.own
    · subst h1
      obtain rfl : es = [] := List.length_eq_zero_iff.1 h2
      exact hid (hclone_nil w)
    · subst h1
      refine hid (hclone_some g 0 _ cap es w rfl h.len (by obtain ⟨hl, _⟩ := Array.getElem?_eq_some_iff.1 h3; exact hl) (fun i hi => ?_))
      have := h.cells i hi
      simp only [Nat.zero_add]
      exact this
  clear h
  go_enter Try.func77, Try.ntmps77
  go_wp2_with fail
  refine (CL.out).mono ?_
  rintro e w1 ⟨v1, rfl, ho, hb⟩
  have H := hid (And.intro ho hb)
  clear ho hb
  go_wp2
  go_ret
  exact ⟨v1, rfl, H.out.1, H.out.2⟩
end Go.Proofs.Ytaogpodncphpjaa
