/- A world of one: a step at Dispatch. -/
import Derived.Test.YtfpkgkjmpcoppaaGreatDoorWoK
namespace Go.Proofs.YtfpkgkjmpcoppaaGreatDoor
open Go.RowKit
set_option linter.unusedVariables false
set_option linter.unusedSimpArgs false
set_option maxRecDepth 20000
section
variable {w w' : World} {W b1 b2 rb tb q sb ib mb rc : Nat} {lg : Value}
variable {pl p g nx got tg ii : Int} {sp inn : Bool} {rest : Value} {bk af ag s0 s1 s2 s3 s4 : Int} {yes : Bool} {un : Int}
theorem SeeP.of_quiet {g1 g2 base n c d : Nat} {evs : List Value} {xs ys : List Int} {s k m x : Int} {y : World} (hq : Quiet w y) (h : SeeP W b1 g1 b2 g2 rb tb q sb ib mb rc base lg n evs xs ys c d s k m p x y w') : SeeP W b1 g1 b2 g2 rb tb q sb ib mb rc base lg n evs xs ys c d s k m p x w w' := by
  obtain ⟨lg', h1, h2, h3, h4, h5, h6, h7⟩ := h
  refine ⟨lg', h1, h2, h3, h4, h5, fun b hb => ?_, (OnL.of_quiet hq).trans h7⟩
  rcases h6 b hb with h | h
  · exact .inl h
  · exact .inr (by obtain ⟨n, rfl⟩ := hq; exact h)
set_option maxHeartbeats 8000000 in
theorem pass_dispatch {g1 g2 base n c d : Nat} {evs : List Value} {xs ys : List Int} (h : Wb w W b1 b2 rb tb q sb ib mb rc lg) (hm : Mc w mb 20 0 g nx 0 tg ii sp inn rest bk af ag s0 s1 s2 s3 s4 yes un) (hg : Lg w base lg n evs) (hn : n < 1000) (hb : base ≤ w.heap.size) (hm1 : Mem w b1 g1 xs c) (hm2 : Mem w b2 g2 ys d) (hc : c < 1000000) (hd : d < 1000000) (hl : xs.length = 9) (hl2 : ys.length = 9) (T2 : EvNames w) (T3 : EvSteps w)
    (ne : b1 ≠ b2 ∧ b1 ≠ g2 ∧ g1 ≠ b2 ∧ g1 ≠ g2 ∧ W ≠ b1 ∧ W ≠ g1 ∧ W ≠ b2 ∧ W ≠ g2) (nl : ∀ q, lg.ownBlock = some q → q ≠ W ∧ q ≠ b1 ∧ q ≠ g1 ∧ q ≠ b2 ∧ q ≠ g2) (nm : mb ≠ W ∧ mb ≠ b1 ∧ mb ≠ g1 ∧ mb ≠ b2 ∧ mb ≠ g2) (nml : lg.ownBlock ≠ some mb) :
    Calls Tryz.prog 103 #[.pointer (some ⟨W, 0, none⟩), .int .i64 0] w fun e w' => e = .returned (.tuple #[]) ∧ ∃ w1, SeeP W b1 g1 b2 g2 rb tb q sb ib mb rc base lg n evs xs ys c d 2 2 0 0 0 w w1 ∧ Mc w' mb 0 0 0 nx (-1) tg ii sp inn rest bk af ag s0 s1 s2 s3 s4 yes un ∧ OnL [mb] w1 w' := by
  have a14 := h.c14
  have k0 := hm.c0
  have k1 := hm.c1
  have k4 := hm.c4
  have HM := hid hm
  have NM := hid nm
  have NML := hid nml
  have LT := hid hm.lt
  have SE := hid (fun (y : World) (hq : Quiet w y) => (see_any 2 (by omega) (h.kept (w' := y) (by obtain ⟨n, rfl⟩ := hq; rfl)) (by decide : evRight (2 : Nat) 0 0 0 0 = true) (hg.kept (w' := y) (fun b hb => by obtain ⟨n, rfl⟩ := hq; rfl)) hn (by obtain ⟨n, rfl⟩ := hq; exact hb) (hm1.quiet hq) (hm2.quiet hq) hc hd hl hl2 (T2.at (hq.below _)) (T3.at (hq.below _)) ne nl).mono (R' := fun e w' => e = .returned (.tuple #[]) ∧ SeeP W b1 g1 b2 g2 rb tb q sb ib mb rc base lg n evs xs ys c d 2 2 0 0 0 w w') fun e w' hx => ⟨hx.1, hx.2.of_quiet hq⟩)
  clear h hm hg hn hb hm1 hm2 hc hd hl hl2 T2 T3 ne nl nm nml
  go_enter Tryz.func103, Tryz.ntmps103
  go_wp2_with fail
  go_region_with (go_at_call 76; refine (SE.out _ ⟨_, rfl⟩).mono ?_; rintro e w7 ⟨rfl, h7⟩)
  all_goals
    have H7 := hid h7
    have M7 := hid (show Mc w7 mb 20 0 g nx 0 tg ii sp inn rest bk af ag s0 s1 s2 s3 s4 yes un from by
      obtain ⟨lg', _, _, _, _, _, _, h8⟩ := h7
      exact HM.out.kept (h8.block mb LT.out (by simp only [List.mem_cons, not_or]; exact ⟨NM.out.1, NM.out.2.1, NM.out.2.2.1, NM.out.2.2.2.1, NM.out.2.2.2.2, fun e => NML.out (by simpa using e)⟩)))
    clear h7 a14 k0 k1 k4
    have k0 := M7.out.c0
    have k2 := M7.out.c2
    have k4 := M7.out.c4
    have kf := M7.out.fz
    go_wp2
    go_end0
    exact ⟨rfl, w7, H7.out, ((M7.out.up2 0).up4 (-1)).up0 0, (OnL.set _ _ _ _ (by simp)).trans ((OnL.set _ _ _ _ (by simp)).trans (OnL.set _ _ _ _ (by simp)))⟩
end
end Go.Proofs.YtfpkgkjmpcoppaaGreatDoor
