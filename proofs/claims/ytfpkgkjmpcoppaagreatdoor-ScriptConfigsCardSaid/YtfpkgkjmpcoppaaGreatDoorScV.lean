/- What a script of nothing reads as, and its text; hostlerlaw21.lives answers true. -/
import Derived.Test.YtfpkgkjmpcoppaaGreatDoorPreS
import Derived.Test.YtfpkgkjmpcoppaaGreatDoorLives20
import Derived.Test.YtfpkgkjmpcoppaaGreatDoorPreG
namespace Go.Proofs.YtfpkgkjmpcoppaaGreatDoor
open Go.RowKit
set_option linter.unusedVariables false
set_option linter.unusedSimpArgs false
set_option maxRecDepth 20000
/-- A slice that reads as these events is answered. -/
def EvsR (es : List Ev) (w : World) (e : Ending) (w' : World) : Prop := ∃ v, e = .returned v ∧ RdE w' v es ∧ Below w.heap.size w w'
set_option maxHeartbeats 4000000 in
theorem clone_evR (ad : Addr) (es : List Ev) (c : Nat) (w : World) (hn : es.length < 1000) (hc : ∀ j u, (fe es)[j]? = some u → w.cell? (ad.add j) = some u) :
    Calls Tryz.prog 78 #[.slice (some ad) es.length c] w (EvsR es w) := by
  obtain ⟨i0, hi, hz0, hz1, hz2⟩ := info_parts infoEv
  obtain ⟨us, hus⟩ : ∃ us, us = fe es := ⟨_, rfl⟩
  obtain ⟨n, hnn⟩ : ∃ n, n = es.length := ⟨_, rfl⟩
  have hl : us.length = n * 5 := by rw [hus, hnn, fe_len]
  have h1 : ∀ u ∈ us, u.oneCell' = true := by rw [hus]; exact fe_ones es
  have RE := hid (fun (w1 : World) (base : Nat) (v : Value) (h : w1.ownsRow base 147 5 v (0 + n) ([] ++ us)) => (show RdE w1 v es from own_rdE (by rw [hnn, hus, Nat.zero_add, List.nil_append] at h; exact h)))
  rw [← hus] at hc
  rw [← hnn] at hn ⊢
  clear hus hnn
  have hnil := fun (w : World) => Lib.run_eql_slice_nil (P := Tryz.prog) w 33 147 (some ad) n c 0 0 Tryz.underlying33
  simp only [Option.isNone_some] at hnil
  have hown : (w.alloc (.cells #[] 147)).ownsRow w.heap.size 147 5 (.slice (some ⟨w.heap.size, 0, none⟩) 0 0) 0 [] := World.ownsRow_made w #[] 0 (Nat.le_refl _) (by omega) rfl
  have HN := hid (fun j u (hj : us[j]? = some u) => (show (w.alloc (.cells #[] 147)).cell? (ad.add j) = some u from by
    have := hc j u hj
    rw [← this]
    exact World.cell?_of_block (Below.heap_alloc _ _ _ (cell_lt this))))
  have H1 := hid h1
  have HL := hid hl
  have HNN := hid hn
  clear hc h1 hl hn
  go_enter Tryz.func78, Tryz.ntmps78
  go_wp2_with (at_builtin; refine wpList_append_own _ rfl _ _ 33 rfl w.heap.size 147 i0 _ 5 40 Tryz.underlying33 hi hz0 hz1 hz2 rfl (by decide) _ _ _ rfl hown ad n c us rfl ?c0 ?c1 ?c2 ?c3 ?c4 ?c5 ?_)
  case c0 => exact HL.out
  case c1 => exact HN.out
  case c2 => exact H1.out
  case c3 => have := HNN.out; unfold maxLen; omega
  case c4 => have := HNN.out; omega
  case c5 => simp
  intro v' w1 hown' hgrow hne
  have hbel : Below w.heap.size w w1 := ((Below.refl w.heap.size w).alloc (Nat.le_refl _) (.cells #[] 147)).grown hgrow (by simp) (fun k hk => by simp [Value.ownBlock] at hk; omega)
  have RR := hid (RE.out w1 _ v' (by simpa using hown'))
  obtain ⟨_, ⟨e, _⟩ | ⟨gq, cap, cur, e, _⟩⟩ := hown'
  · exact absurd e hne
  subst e
  have HB := hid hbel
  clear hown hgrow hnil hne hbel HN H1 HL RE
  go_wp2
  go_ret
  exact ⟨_, rfl, RR.out, HB.out⟩
set_option maxHeartbeats 8000000 in
theorem from_0R (w : World) (p o base : Nat) (v : Value) (es : List Ev) (n : Nat) (hn : n = es.length) (h0 : 0 < n) (h9 : n < 1000) (hc : w.cell? ⟨p, o, none⟩ = some v) (h : Lg w base v n (fe es)) :
    Calls Tryz.prog 44 #[.pointer (some ⟨p, o, none⟩), .int .i64 0] w (EvsR es w) := by
  have hcs := fun g => h.own.cells (g := g)
  obtain ⟨hl, ⟨e, h2⟩ | ⟨gq, cap, cur, e, _, hg, hcap, hcm, _⟩⟩ := h.own
  · exact absurd h2 (by omega)
  subst e
  have hpl := cell_lt hc
  have hgl := blk_lt hg
  have hcc : (cap : Int) ≤ 9223372036854775807 := by unfold maxLen at hcm; omega
  have h2c : (n : Int) ≤ (cap : Int) := by omega
  have h2d : (0 : Int) ≤ (n : Int) := by omega
  have LN := hid (fun (y : World) (hq : Quiet w y) => (len_b y p o _ n cap (by obtain ⟨n, rfl⟩ := hq; exact hc)))
  have CL := hid (fun (y : World) (hb : Below w.heap.size w y) => (clone_evR ⟨gq, 0, none⟩ es cap y (by omega) (fun j u hj => by
    have := hcs gq rfl j u hj
    exact (hb.cell (p := (⟨gq, 0, none⟩ : Addr).add j) (cell_lt this)).trans this)).mono (R' := EvsR es w) (fun e w' ⟨v, he, hr, hb'⟩ => ⟨v, he, hr, hb.trans (hb'.mono hb.size)⟩))
  rw [← hn] at CL
  clear hl hg hcs h hgl hn
  go_enter Tryz.func44, Tryz.ntmps44
  go_wp2_with fail
  go_region_with (first
    | (go_at_call 79; refine (LN.out _ ⟨1, rfl⟩).mono ?_; rintro e y ⟨rfl, rfl⟩)
    | (go_at_call 78; refine (CL.out _ (Quiet.below ⟨1, rfl⟩ _)).mono ?_; rintro e y5 ⟨v5, rfl, hr5, hb5⟩))
  all_goals
    have HB5 := hid hb5
    have HR5 := hid hr5
    clear hb5 hr5
    go_wp2
    go_ret
    exact ⟨_, rfl, HR5.out, HB5.out⟩
set_option maxHeartbeats 4000000 in
theorem weventsR {w : World} {W b1 b2 rb tb q sb ib mb rc : Nat} {lg : Value} (h : Wb w W b1 b2 rb tb q sb ib mb rc lg) {base : Nat} {es : List Ev} {n : Nat} (hn : n = es.length) (h0 : 0 < n) (h9 : n < 1000) (hg : Lg w base lg n (fe es)) :
    Calls Tryz.prog 12 #[.pointer (some ⟨W, 0, none⟩)] w (EvsR es w) := by
  have FR := hid (from_0R w W 15 base lg es n hn h0 h9 h.c15 hg)
  clear h hg
  go_enter Tryz.func12, Tryz.ntmps12
  go_wp2_with fail
  refine FR.out.mono ?_
  rintro e w2 ⟨v, rfl, hr, hb⟩
  have HB := hid hb
  have HR := hid hr
  clear hb hr FR
  go_wp2
  go_ret
  exact ⟨_, rfl, HR.out, HB.out⟩
end Go.Proofs.YtfpkgkjmpcoppaaGreatDoor
