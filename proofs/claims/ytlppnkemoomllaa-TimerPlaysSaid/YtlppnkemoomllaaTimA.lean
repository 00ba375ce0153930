/- timer.Timers' methods that write: what Add leaves; Next, Due. -/
import Derived.Test.YtlppnkemoomllaaTimR
import Derived.Test.YtlppnkemoomllaaHeapTk
namespace Go.Proofs.Ytlppnkemoomllaa
set_option linter.unusedVariables false
set_option linter.unusedSimpArgs false
open Go.RowKit Tk
variable {Z : Nat → Prop} {w w' : World} {t hb mb n c : Nat} {hp : Nat → Nat} {v : Nat → Value} {es : Nat → List En} {inn : Int → Bool} {k ad : Nat}

theorem put_perm {es : List En} (x : En) : (riseF es.length (es ++ [x]) es.length).Perm (x :: es) := by
  rw [List.perm_iff_count]
  intro a
  rw [put_count, List.count_cons]
  by_cases h : a = x
  · subst h; simp
  · have : ¬ x = a := fun e => h e.symm
    simp [h, this]
set_option maxHeartbeats 4000000 in
/-- What isn't there has no timer. -/
theorem tadd_arg (h : Tq Z w t hb mb n c hp v es inn k ad) (p g x : Int) (hbad : p < 0 ∨ (n : Int) ≤ p ∨ g < 0 ∨ 4096 ≤ g) : Calls Try.prog 10 #[.pointer (some ⟨t, 0, none⟩), .int .i64 p, .int .i64 g, .int .i64 x] w fun e w' => e = .returned (.int .i64 1) ∧ w' = w := by
  have c0 : w.cell? ⟨t, 0, none⟩ = some (.slice (some ⟨hb, 0, none⟩) n c) := cell_ent h.box rfl
  have hcc := h.hc
  unfold maxLen at hcc
  clear h
  by_cases h1 : p < 0
  · have d1 : decide (p < 0) = true := decide_eq_true h1
    go_enter Try.func10, Try.ntmps10
    go_wp2
    go_ret
    exact ⟨rfl, rfl⟩
  have d1 : decide (p < 0) = false := decide_eq_false h1
  by_cases h2 : (n : Int) ≤ p
  · have d2 : decide ((n : Int) ≤ p) = true := decide_eq_true h2
    go_enter Try.func10, Try.ntmps10
    go_wp2
    go_ret
    exact ⟨rfl, rfl⟩
  have d2 : decide ((n : Int) ≤ p) = false := decide_eq_false h2
  by_cases h3 : g < 0
  · have d3 : decide (g < 0) = true := decide_eq_true h3
    go_enter Try.func10, Try.ntmps10
    go_wp2
    go_ret
    exact ⟨rfl, rfl⟩
  have d3 : decide (g < 0) = false := decide_eq_false h3
  have h4 : 4096 ≤ g := by omega
  have d4 : decide (4096 ≤ g) = true := decide_eq_true h4
  go_enter Try.func10, Try.ntmps10
  go_wp2
  go_ret
  exact ⟨rfl, rfl⟩
set_option maxHeartbeats 4000000 in
theorem tadd_same (h : Tq Z w t hb mb n c hp v es inn k ad) (p g : Nat) (hpn : p < n) (hg : g < 4096) (x : Int) (hi : inn g = true) : Calls Try.prog 10 #[.pointer (some ⟨t, 0, none⟩), .int .i64 p, .int .i64 g, .int .i64 x] w fun e w' => e = .returned (.int .i64 8) ∧ w' = w := by
  have c0 : w.cell? ⟨t, 0, none⟩ = some (.slice (some ⟨hb, 0, none⟩) n c) := cell_ent h.box rfl
  have HAS := thas h g
  rw [hi] at HAS
  have HS := hid HAS
  have hcc := h.hc
  unfold maxLen at hcc
  have d1 : decide ((p : Int) < 0) = false := decide_eq_false (by omega)
  have d2 : decide ((n : Int) ≤ p) = false := decide_eq_false (by omega)
  have d3 : decide ((g : Int) < 0) = false := decide_eq_false (by omega)
  have d4 : decide (4096 ≤ (g : Int)) = false := decide_eq_false (by omega)
  clear h HAS hi
  go_enter Try.func10, Try.ntmps10
  go_wp2_with fail
  refine (HS.out).mono ?_
  rintro e w2 ⟨rfl, rfl⟩
  go_wp2
  go_ret
  exact ⟨rfl, rfl⟩
/-- A timer more. -/
def AdPost (Z : Nat → Prop) (w : World) (t hb mb n c : Nat) (hp : Nat → Nat) (v : Nat → Value) (es : Nat → List En) (inn : Int → Bool) (k ad p g : Nat) (x : Int) (w' : World) : Prop :=
  FrZ Z w w' ∧ ∃ v' T, T.Perm ((x, (ad : Int), (g : Int)) :: es p) ∧ Tq Z w' t hb mb n c hp (updN v p v') (updN es p T) (updI inn g true) (k + 1) (ad + 1)
set_option maxHeartbeats 8000000 in
theorem tadd (h : Tq Z w t hb mb n c hp v es inn k ad) (hz : ∀ q, Z q → q < w.heap.size) (p g : Nat) (hpn : p < n) (hg : g < 4096) (x : Int) (hi : inn g = false) (hl : (es p).length < 100000) (had : ad < 1000000) :
    Calls Try.prog 10 #[.pointer (some ⟨t, 0, none⟩), .int .i64 p, .int .i64 g, .int .i64 x] w fun e w' => e = .returned (.int .i64 0) ∧ AdPost Z w t hb mb n c hp v es inn k ad p g x w' := by
  have TQ := hid h
  have c0 : w.cell? ⟨t, 0, none⟩ = some (.slice (some ⟨hb, 0, none⟩) n c) := cell_ent h.box rfl
  have c0' : w.drew.cell? ⟨t, 0, none⟩ = some (.slice (some ⟨hb, 0, none⟩) n c) := cell_ent h.box rfl
  have c2 : w.cell? ⟨t, 2, none⟩ = some (.int .u64 ad) := cell_ent h.box rfl
  have c2' : w.drew.cell? ⟨t, 2, none⟩ = some (.int .u64 ad) := cell_ent h.box rfl
  have HAS := thas h g
  rw [hi] at HAS
  have HS := hid HAS
  have hcc := h.hc
  unfold maxLen at hcc
  have d1 : decide ((p : Int) < 0) = false := decide_eq_false (by omega)
  have d2 : decide ((n : Int) ≤ p) = false := decide_eq_false (by omega)
  have d3 : decide ((g : Int) < 0) = false := decide_eq_false (by omega)
  have d4 : decide (4096 ≤ (g : Int)) = false := decide_eq_false (by omega)
  have hdr := h.below (bl_drw w w.heap.size)
  have r0 := h.row.2 p hpn
  have r0' := hdr.row.2 p hpn
  obtain ⟨a, ha⟩ : ∃ a, a = hp p := ⟨_, rfl⟩
  have HA := hid ha
  rw [← ha] at r0 r0'
  have PU := hid (put_sep w.drew 0 a (v p) (es p) x ad g (by rw [ha]; exact hdr.he p hpn) (Nat.zero_le _) hl)
  have NX := hid (fun (w2 : World) (v' : Value) (hH : Hp w2 0 a v' (riseF (es p).length (es p ++ [(x, (ad : Int), (g : Int))]) (es p).length)) (ho : OnlyV a 0 w.drew w2) (hq : OnlyQ a (v p) w.drew w2) (hn : ∀ q, v'.ownBlock = some q → (v p).ownBlock = some q ∨ w.drew.heap.size ≤ q) =>
    (show Tq Z w2 t hb mb n c hp (updN v p v') (updN es p (riseF (es p).length (es p ++ [(x, (ad : Int), (g : Int))]) (es p).length)) inn k ad ∧ FrZ Z w w2 from
      ⟨hdr.up hpn (by rw [← ha]; exact hH) (put_ord (h.ord p hpn) _) (by rw [← ha]; exact hq) hn (fun q hq' => hz q hq'), (FrZ.of_below (bl_drw w w.heap.size)).trans (.of_q hdr hpn (by rw [← ha]; exact hq) ⟨ho.os, ho.tape, ho.output⟩)⟩))
  have HI := hid hi
  have W1 : IntKind.u64.wrap ((ad : Int) + 1) = (ad : Int) + 1 := by
    have hb : IntKind.u64.bits = 64 := rfl
    simp [IntKind.wrap, hb]; omega
  clear h HAS hi hz ha hdr hl
  go_enter Try.func10, Try.ntmps10
  go_wp2_with fail
  refine (HS.out).mono ?_
  rintro e w2 ⟨rfl, rfl⟩
  go_wp2_with fail
  go_region_with (go_at_call 23; refine (PU.out).mono ?_; rintro e w3 ⟨rfl, v', q1, q2, q3, q4⟩; have N3 := hid (NX.out w3 v' q1 q2 q3 q4); clear q1 q2 q3 q4)
  all_goals
    obtain ⟨t3, f3⟩ := N3.out
    obtain ⟨w4, s4, t4, f4⟩ := t3.store (g : Int) HI.out
    have c1 : w3.cell? ⟨t, 1, none⟩ = some (.map (some mb)) := cell_ent t3.box rfl
    have c24 : w4.cell? ⟨t, 2, none⟩ = some (.int .u64 ad) := cell_ent t4.box rfl
    have FIN := hid (show AdPost Z w2 t hb mb n c hp v es inn k ad p g x (w4.setCell ⟨t, 2, none⟩ (.int .u64 ((ad : Int) + 1))) from ⟨(f3.trans f4).trans (t4.count (ad + 1)).2, v', _, put_perm _, (t4.count (ad + 1)).1⟩)
    have z4 : w4.frozen? ⟨t, 2, none⟩ = false := by have hx : w4.heap[t]? = _ := t4.box; simp only [World.frozen?, hx]; rfl
    clear t3 f3 t4 f4 N3 NX PU c0 c0' c2 c2' r0 r0' HS TQ
    go_wp2
    go_ret
    exact ⟨rfl, FIN.out⟩
end Go.Proofs.Ytlppnkemoomllaa
