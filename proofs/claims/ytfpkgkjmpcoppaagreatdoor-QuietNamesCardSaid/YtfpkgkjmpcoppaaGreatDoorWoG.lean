/- A world of one: what a machine does with a lock held: at Local, at Global. -/
import Derived.Test.YtfpkgkjmpcoppaaGreatDoorWoD
namespace Go.Proofs.YtfpkgkjmpcoppaaGreatDoor
open Go.RowKit
set_option linter.unusedVariables false
set_option linter.unusedSimpArgs false
set_option maxRecDepth 20000
section
variable {w w' : World} {W b1 b2 rb tb q sb ib mb rc : Nat} {lg : Value}
variable {pl p g nx got tg ii : Int} {sp inn : Bool} {rest : Value} {bk af ag s0 s1 s2 s3 s4 : Int} {yes : Bool} {un : Int}
/-- An empty slice's address and cap. -/
def RcOK (ra : Option Addr) (rc : Nat) : Prop := rc ≤ maxLen ∧ ((ra = none ∧ rc = 0) ∨ ∃ ad, ra = some ad)
theorem get_no (hm : Mc w mb pl p g nx got tg ii sp inn rest bk af ag s0 s1 s2 s3 s4 yes un) (x : Int) :
    Calls Tryz.prog 175 #[.pointer (some ⟨mb, 0, none⟩), .int .i64 x, .bool false] w fun e w' => e = .returned (.tuple #[]) ∧ Mc w' mb pl p g nx got tg ii sp inn rest bk af ag s0 s1 s2 s3 s4 false un ∧ OnL [mb] w w' := by
  have k18 := hm.c18
  have kf := hm.fz
  have HM := hid hm
  clear hm
  go_enter Tryz.func175, Tryz.ntmps175
  go_wp2
  go_end0
  exact ⟨rfl, HM.out.up18 false, OnL.set _ _ _ _ (by simp)⟩
set_option maxHeartbeats 4000000 in
/-- What getAll leaves, of a slice with one number. -/
theorem getAll_one (hm : Mc w mb pl p g nx got tg ii sp inn rest bk af ag s0 s1 s2 s3 s4 yes un) (v : Value) (x : Int) (hv : Reads w v [x]) (hne : ∀ gg off n c, v = .slice (some ⟨gg, off, none⟩) n c → gg ≠ mb) :
    Calls Tryz.prog 178 #[.pointer (some ⟨mb, 0, none⟩), v] w fun e w' => e = .returned (.tuple #[]) ∧ (∃ ra rc, RcOK ra rc ∧ Mc w' mb pl p g nx x tg ii sp inn (.slice ra 0 rc) bk af ag s0 s1 s2 s3 s4 true un) ∧ OnL [mb] w w' := by
  obtain ⟨a, c, rfl, ⟨hc0, hc1, _⟩, hrd⟩ := hv
  obtain ⟨gg, off, rfl, hgl, hcell⟩ := hrd (by simp)
  have n1 : gg ≠ mb := hne _ _ _ _ rfl
  have kx := hcell 0 (by simp)
  simp only [List.getD_cons_zero, Nat.add_zero, List.length_singleton] at kx hc0
  have k4 := hm.c4
  have k9 := hm.c9
  have k18 := hm.c18
  have kf := hm.fz
  have HM := hid hm
  have hc2 : (c : Int) ≤ 9223372036854775807 := by unfold maxLen at hc1; omega
  have hc3 : (1 : Int) ≤ (c : Int) := by omega
  simp only [List.length_singleton]
  clear hm hcell hrd
  go_enter Tryz.func178, Tryz.ntmps178
  go_wp2_with fail
  go_region
  all_goals
    go_wp2
    all_goals
      go_end0
      exact ⟨rfl, ⟨_, _, ⟨by omega, .inr ⟨_, rfl⟩⟩, (((HM.out.up18 true).up4 x).up9 _).kept rfl⟩, (OnL.set _ _ _ _ (by simp)).trans ((OnL.set _ _ _ _ (by simp)).trans ((OnL.set _ _ _ _ (by simp)).trans (.of_quiet ⟨1, rfl⟩)))⟩
set_option maxHeartbeats 8000000 in
/-- At Local, of an empty ring: none. -/
theorem with_local {rg : Nat} (h : Wb w W b1 b2 rb tb q sb ib mb rc lg) (hm : Mc w mb 3 0 g nx got tg ii sp inn rest bk af ag s0 s1 s2 s3 s4 yes un) (hr : w.cell? ⟨rb, 0, none⟩ = some (.pointer (some ⟨rg, 0, none⟩))) (hR : Rg w rg [] 0 false 0) (hne : mb ≠ rg) (u : Int) :
    Calls Tryz.prog 140 #[.pointer (some ⟨W, 0, none⟩), .int .i64 0, .int .i64 u] w fun e w' => e = .returned (.bool false) ∧ Mc w' mb 3 0 g nx got tg ii sp inn rest bk af ag s0 s1 s2 s3 s4 false un ∧ OnL [mb, rg] w w' := by
  have HM := hid hm
  have HW := hid h
  have a14 := h.c14
  have a9 := h.c9
  have k0 := hm.c0
  have k1 := hm.c1
  have GT := hid (fun (y : World) (hq : Quiet w y) => (get_none rg 0 0 y (hR.kept (by obtain ⟨n, rfl⟩ := hq; rfl))).mono (R' := fun e w' => e = .returned (.tuple #[.int .i64 0, .bool false]) ∧ Mc w' mb 3 0 g nx got tg ii sp inn rest bk af ag s0 s1 s2 s3 s4 yes un ∧ OnL [mb, rg] w w') fun e w' hx => by
    obtain ⟨he, hR2, ho⟩ := hx
    refine ⟨he, HM.out.kept ((ho.block mb (by have := HM.out.lt; obtain ⟨n, rfl⟩ := hq; exact this) hne (by simp)).trans (by obtain ⟨n, rfl⟩ := hq; rfl)), (OnL.of_quiet hq).trans ⟨ho.os, ho.tape, ho.output, ho.size, fun k hk hn => ho.block k hk (fun e => hn (by simp [e])) (by simp)⟩⟩)
  clear h hm hR
  go_enter Tryz.func140, Tryz.ntmps140
  go_wp2_with fail
  go_region_with (first
    | (go_at_call 177; refine (GT.out _ ⟨_, rfl⟩).mono ?_; rintro e y ⟨rfl, hy, hoy⟩)
    | (go_at_call 175; refine (get_no (by assumption) 0).mono ?_; rintro e z ⟨rfl, hz, hoz⟩))
  all_goals
    have HZ := hid hz
    have HO := hid (hoy.trans (hoz.mono (S' := [mb, rg]) (by simp)))
    clear hz hoz hy hoy
    go_wp2
    go_ret
    exact ⟨rfl, HZ.out, HO.out⟩
theorem owns_ge {w : World} {base : Nat} {v : Value} {xs : List Int} (h : Owns w base v xs) {gg off n c : Nat} (e : v = .slice (some ⟨gg, off, none⟩) n c) : base ≤ gg := by
  obtain ⟨h0, ⟨h1, h2⟩ | ⟨g, cap, cur, h1, h2, _⟩⟩ := h
  · rw [h1] at e; cases e
  · rw [h1] at e; cases e; exact h2
set_option maxHeartbeats 8000000 in
/-- At Global, of a queue with one: it is taken. -/
theorem with_global {qp : Nat} {r : Option Nat} (h : Wb w W b1 b2 rb tb q sb ib mb rc lg) (hm : Mc w mb 4 p g nx got tg ii sp inn rest bk af ag s0 s1 s2 s3 s4 yes un) (hQ : Qu w q qp 1 r [0]) (n1 : mb ≠ qp) (n2 : r ≠ some mb) (n3 : mb ≠ q) (u : Int) :
    Calls Tryz.prog 140 #[.pointer (some ⟨W, 0, none⟩), .int .i64 0, .int .i64 u] w fun e w' => e = .returned (.bool false) ∧ (∃ ra rcc, RcOK ra rcc ∧ Mc w' mb 4 p g nx 0 tg ii sp inn (.slice ra 0 rcc) bk af ag s0 s1 s2 s3 s4 true un) ∧ (∃ r', Qu w' q qp 1 r' [] ∧ ∀ k, r' = some k → r = some k ∨ w.heap.size ≤ k) ∧ OnL (mb :: qp :: r.toList) w w' := by
  have HM := hid hm
  have a14 := h.c14
  have a11 := h.c11
  have k0 := hm.c0
  have QT := hid ((qtake q qp 1 r [0] w hQ 1 rfl 1 (by decide)).mono (R' := fun e w' => ∃ v r', e = .returned v ∧ Owns w' w.heap.size v [0] ∧ Mc w' mb 4 p g nx got tg ii sp inn rest bk af ag s0 s1 s2 s3 s4 yes un ∧ Qu w' q qp 1 r' [] ∧ (∀ k, r' = some k → r = some k ∨ w.heap.size ≤ k) ∧ OnL (mb :: qp :: r.toList) w w') fun e w' hx => by
    obtain ⟨v, r', he, ho, hb, hoo, hr, hv⟩ := hx
    refine ⟨v, r', he, ho, HM.out.kept (hoo.block mb HM.out.lt n1 (fun e => n2 e.symm)), hQ.after hoo hb hr, fun k hk => ?_, ⟨hoo.os, hoo.tape, hoo.output, hoo.size, fun k hk hn => hoo.block k hk (fun e => hn (by simp [e])) (fun e => hn (by simp [← e]))⟩⟩
    rcases hr with hr | hr
    · exact .inl (hr ▸ hk)
    · exact .inr (hr k hk))
  have hmbq : mb < w.heap.size := hm.lt
  have N3 := hid n3
  have N1 := hid n1
  have N2 := hid n2
  have HLT := hid hmbq
  clear h hm hQ hmbq n1 n2 n3
  go_enter Tryz.func140, Tryz.ntmps140
  go_wp2_with fail
  refine QT.out.mono ?_
  rintro e w2 ⟨v, r', rfl, ho, hm2, hq2, hr2, hl2⟩
  have OH := hid ho
  have Q2 := hid hq2
  have R2 := hid hr2
  have L2 := hid hl2
  have GA := hid (getAll_one hm2 v 0 ho.reads (fun gg off n c e => by have := owns_ge ho e; have := HLT.out; omega))
  have QK := hid (fun (w3 : World) (hl : OnL [mb] w2 w3) => (show Qu w3 q qp 1 r' [] from ⟨(hl.block q hq2.lt (by simp; exact fun e => N3.out e.symm)).trans hq2.hq, hq2.hb.kept (hl.block qp hq2.hb.lt (by simp; exact fun e => N1.out e.symm)) (fun k hk => hl.block k (hq2.hb.rlt k hk) (by simp; intro e; subst e; rcases hr2 _ hk with h | h; exact N2.out h; have := HLT.out; omega)), hq2.ne, hq2.nr, hq2.lo, hq2.hi⟩))
  clear ho hm2 hq2 hr2 hl2 QT
  go_wp2_with fail
  refine GA.out.mono ?_
  rintro e w3 ⟨rfl, ⟨ra, rcc, hrc, hm3⟩, hl3⟩
  have M3 := hid hm3
  have L3 := hid hl3
  clear hm3 hl3
  go_wp2
  go_ret
  exact ⟨rfl, ⟨ra, rcc, hrc, M3.out⟩, ⟨r', QK.out _ L3.out, R2.out⟩, L2.out.trans (L3.out.mono (by simp))⟩
end
end Go.Proofs.YtfpkgkjmpcoppaaGreatDoor
