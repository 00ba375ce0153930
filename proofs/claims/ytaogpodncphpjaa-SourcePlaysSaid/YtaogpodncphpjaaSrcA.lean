/- source.Source's Sleep, Wait, Next, New. -/
import Derived.Test.YtaogpodncphpjaaSrcD
namespace Go.Proofs.Ytaogpodncphpjaa
set_option linter.unusedVariables false
set_option linter.unusedSimpArgs false
open Go.RowKit
section
variable {Z : Nat → Prop} {w w' : World} {s t p b1 b2 b3 n : Nat} {now : Int} {es : Nat → List En} {L l : List En} {ad : Nat} {W : List (Int × Int)} {R : List Int}
/-- A deed of the timers' keeps the rest. -/
theorem Sq.frT (h : Sq Z w s t p b1 b2 b3 n now es L ad W R) (hf : FrZ (Zt Z s p b1 b2 b3) w w') : w'.heap[s]? = w.heap[s]? ∧ Pq (Zp p b1 b2 b3) w' p b1 b2 b3 W R := by
  obtain ⟨l1, l2, l3, l4⟩ := h.pq.lt
  exact ⟨hf.block _ h.lt (by simp [Zt]), h.pq.kept (hf.block _ l1 (by simp [Zt])) (hf.block _ l2 (by simp [Zt])) (hf.block _ l3 (by simp [Zt])) (hf.block _ l4 (by simp [Zt]))⟩
theorem Sq.add {q : Nat} {x g : Int} (h : Sq Z w s t p b1 b2 b3 n now es L ad W R) (ha : TeAdd (Zt Z s p b1 b2 b3) w t n es L ad q (x, (ad : Int), g) w') (hx : inI x) (hw : waitsG W g = false) :
    ∃ es', Sq Z w' s t p b1 b2 b3 n now es' (insF (x, (ad : Int), g) L) (ad + 1) W R ∧ FrZ Z w w' := by
  obtain ⟨hf, T, _, ht⟩ := ha
  obtain ⟨e1, q1⟩ := h.frT hf
  refine ⟨_, ⟨e1.trans h.box, ht, q1, h.now, fun e he => ?_, fun a ha => ?_, h.zf, h.ne, fun q hq => Nat.lt_of_lt_of_le (h.hz q hq) hf.size⟩, hf.ofT⟩
  · rcases mem_ins.1 he with rfl | he
    · exact hx
    · exact h.whn e he
  · rw [hasG_ins, Bool.or_eq_true] at ha
    rcases ha with ha | ha
    · have : a = g := of_decide_eq_true ha
      rw [this]; exact hw
    · exact h.dis a ha
def SlPost (Z : Nat → Prop) (w0 : World) (s t p b1 b2 b3 n : Nat) (now : Int) (L : List En) (ad : Nat) (W : List (Int × Int)) (R : List Int) (w' : World) : Prop := ∃ es, OkPost Z w0 s t p b1 b2 b3 n now es L ad W R w'
set_option maxHeartbeats 8000000 in
theorem ssleep (h : Sq Z w s t p b1 b2 b3 n now es L ad W R) (q g d : Int) (hq0 : 0 ≤ q) (hqn : q < n) (hg0 : 0 ≤ g) (hg : g < 4096) (hd : inI d) (hi : hasG L g = false) (hw : waitsG W g = false) (hl : L.length < 100000) (had : ad < 1000000)
    (r : Bool) (hr : dueS now (insF (sat now (max d 0), (ad : Int), g) L) W R = r) :
    Calls Try.prog 16 #[.pointer (some ⟨s, 0, none⟩), .int .i64 q, .int .i64 g, .int .i64 d] w fun e w' => e = .returned (.tuple #[.bool r, .int .i64 0]) ∧ SlPost Z w s t p b1 b2 b3 n now (insF (sat now (max d 0), (ad : Int), g) L) (ad + 1) W R w' := by
  have c2 : w.cell? ⟨s, 2, none⟩ = some (.pointer (some ⟨p, 0, none⟩)) := cellx h.box rfl
  have c1 : w.cell? ⟨s, 1, none⟩ = some (.pointer (some ⟨t, 0, none⟩)) := cellx h.box rfl
  have c1' : w.drew.cell? ⟨s, 1, none⟩ = some (.pointer (some ⟨t, 0, none⟩)) := cellx h.box rfl
  have PH := phas h.pq g
  rw [hw] at PH
  have HPH := hid PH
  have H1 := h.below (bl_drw w w.heap.size)
  have HQ := hid H1
  have hx := sat_inI now (max d 0)
  have AF := cafter s now d w.drew (cellx H1.box rfl) h.now hd
  obtain ⟨x, hxx⟩ : ∃ x, x = sat now (max d 0) := ⟨_, rfl⟩
  rw [← hxx] at AF hx hr ⊢
  have HX := hid hx
  have HAF := hid AF
  have AD := hid (te_addI H1.te H1.hzt q g hq0 hqn hg0 hg x hi hl had)
  have HR := hid hr
  have HW := hid hw
  have F1 := hid (FrZ.of_below (Z := Z) (bl_drw w w.heap.size))
  have e0 : decide (0 ≤ q) = true := decide_eq_true hq0
  clear h hd hi hw hl had hr AF H1 hxx PH hx hg hg0
  go_enter Try.func16, Try.ntmps16
  go_wp2_with fail
  refine (HPH.out).mono ?_
  rintro e w' ⟨rfl, rfl⟩
  go_wp2_with fail
  go_region_with (first
    | (go_at_call 42; refine (HAF.out).mono ?_; rintro e w3 ⟨rfl, rfl⟩)
    | (go_at_call 41; refine (AD.out).mono ?_; rintro e w4 ⟨rfl, h4⟩; have H4 := hid h4; clear h4))
  all_goals
    obtain ⟨es4, q4, f4⟩ := HQ.out.add H4.out HX.out HW.out
    have D := hid (sdue q4 r HR.out)
    have Q4 := hid q4
    have F4 := hid (F1.out.trans f4)
    clear q4 f4 H4 c1 c1' c2
    go_wp2_with fail
    refine (D.out).mono ?_
    rintro e w5 ⟨rfl, b5⟩
    have FIN := hid (show SlPost Z w' s t p b1 b2 b3 n now (insF (x, (ad : Int), g) L) (ad + 1) W R w5 from ⟨es4, F4.out.trans (.of_below b5), Q4.out.below b5⟩)
    clear b5 D Q4 F4
    go_wp2
    go_ret2
    exact ⟨rfl, FIN.out⟩
set_option maxHeartbeats 8000000 in
theorem ssleep_waits (h : Sq Z w s t p b1 b2 b3 n now es L ad W R) (q g d : Int) (hq0 : 0 ≤ q) (hqn : q < n) (hw : waitsG W g = true) :
    Calls Try.prog 16 #[.pointer (some ⟨s, 0, none⟩), .int .i64 q, .int .i64 g, .int .i64 d] w fun e w' => e = .returned (.tuple #[.bool false, .int .i64 8]) ∧ Below w.heap.size w w' := by
  have c2 : w.cell? ⟨s, 2, none⟩ = some (.pointer (some ⟨p, 0, none⟩)) := cellx h.box rfl
  have c3 : w.cell? ⟨s, 3, none⟩ = some (.int .i64 n) := cellx h.box rfl
  have PH := phas h.pq g
  rw [hw] at PH
  have HPH := hid PH
  have e0 : decide (0 ≤ q) = true := decide_eq_true hq0
  have e1 : decide (q < n) = true := decide_eq_true hqn
  clear h hw PH
  go_enter Try.func16, Try.ntmps16
  go_wp2_with fail
  refine (HPH.out).mono ?_
  rintro e w' ⟨rfl, rfl⟩
  go_wp2
  go_ret2
  exact ⟨rfl, Below.refl _ _⟩

set_option maxHeartbeats 8000000 in
theorem ssleep_err (h : Sq Z w s t p b1 b2 b3 n now es L ad W R) (q g d : Int) (hd : inI d) (hw : waitsG W g = true → q < 0 ∨ (n : Int) ≤ q) (c : Int) (hc : c ≠ 0)
    (AD : ∀ y, Below w.heap.size w y → ∀ x, Calls Try.prog 41 #[.pointer (some ⟨t, 0, none⟩), .int .i64 q, .int .i64 g, .int .i64 x] y fun e w' => e = .returned (.int .i64 c) ∧ w' = y) :
    Calls Try.prog 16 #[.pointer (some ⟨s, 0, none⟩), .int .i64 q, .int .i64 g, .int .i64 d] w fun e w' => e = .returned (.tuple #[.bool false, .int .i64 c]) ∧ Below w.heap.size w w' := by
  have c2 : w.cell? ⟨s, 2, none⟩ = some (.pointer (some ⟨p, 0, none⟩)) := cellx h.box rfl
  have c3 : w.cell? ⟨s, 3, none⟩ = some (.int .i64 n) := cellx h.box rfl
  have c1 : w.cell? ⟨s, 1, none⟩ = some (.pointer (some ⟨t, 0, none⟩)) := cellx h.box rfl
  have c1' : w.drew.cell? ⟨s, 1, none⟩ = some (.pointer (some ⟨t, 0, none⟩)) := cellx h.box rfl
  have AF := cafter s now d w.drew (cellx (h.below (bl_drw w w.heap.size)).box rfl) h.now hd
  obtain ⟨x, hxx⟩ : ∃ x, x = sat now (max d 0) := ⟨_, rfl⟩
  rw [← hxx] at AF
  have HAF := hid AF
  have HAD := hid (AD _ (bl_drw w w.heap.size) x)
  have PH := phas h.pq g
  have hcb : (c == 0) = false := by simpa using hc
  rcases hg : waitsG W g with _ | _
  · rw [hg] at PH
    have HPH := hid PH
    clear h hd hw AF hxx PH AD hg
    go_enter Try.func16, Try.ntmps16
    go_wp2_with fail
    refine (HPH.out).mono ?_
    rintro e w' ⟨rfl, rfl⟩
    go_wp2_with fail
    go_region_with (first
      | (go_at_call 42; refine (HAF.out).mono ?_; rintro e w3 ⟨rfl, rfl⟩)
      | (go_at_call 41; refine (HAD.out).mono ?_; rintro e w4 ⟨rfl, rfl⟩))
    all_goals
      clear c1 c1' c2 c3
      go_wp2
      go_ret2
      exact ⟨rfl, bl_drw _ _⟩
  · rw [hg] at PH
    have HPH := hid PH
    by_cases hq : q < 0
    · have e0 : decide (0 ≤ q) = false := decide_eq_false (by omega)
      clear h hd hw AF hxx PH AD hg
      go_enter Try.func16, Try.ntmps16
      go_wp2_with fail
      refine (HPH.out).mono ?_
      rintro e w' ⟨rfl, rfl⟩
      go_wp2_with fail
      go_region_with (first
        | (go_at_call 42; refine (HAF.out).mono ?_; rintro e w3 ⟨rfl, rfl⟩)
        | (go_at_call 41; refine (HAD.out).mono ?_; rintro e w4 ⟨rfl, rfl⟩))
      all_goals
        clear c1 c1' c2 c3
        go_wp2
        go_ret2
        exact ⟨rfl, bl_drw _ _⟩
    · have e0 : decide (0 ≤ q) = true := decide_eq_true (by omega)
      have e1 : decide (q < n) = false := decide_eq_false (by have := hw hg; omega)
      clear h hd hw AF hxx PH AD hg
      go_enter Try.func16, Try.ntmps16
      go_wp2_with fail
      refine (HPH.out).mono ?_
      rintro e w' ⟨rfl, rfl⟩
      go_wp2_with fail
      go_region_with (first
        | (go_at_call 42; refine (HAF.out).mono ?_; rintro e w3 ⟨rfl, rfl⟩)
        | (go_at_call 41; refine (HAD.out).mono ?_; rintro e w4 ⟨rfl, rfl⟩))
      all_goals
        clear c1 c1' c2 c3
        go_wp2
        go_ret2
        exact ⟨rfl, bl_drw _ _⟩
end
end Go.Proofs.Ytaogpodncphpjaa
