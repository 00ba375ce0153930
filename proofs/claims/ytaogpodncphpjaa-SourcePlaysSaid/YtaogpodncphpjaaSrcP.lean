/- source.Source: its deeds' answers, each in one. -/
import Derived.Test.YtaogpodncphpjaaSrcB
namespace Go.Proofs.Ytaogpodncphpjaa
set_option linter.unusedVariables false
set_option linter.unusedSimpArgs false
open Go.RowKit
section
variable {Z : Nat → Prop} {w w' : World} {s t p b1 b2 b3 n : Nat} {now : Int} {es : Nat → List En} {L l : List En} {ad : Nat} {W : List (Int × Int)} {R : List Int}
theorem Sq.ok0 (h : Sq Z w s t p b1 b2 b3 n now es L ad W R) (hb : Below w.heap.size w w') : OkPost Z w s t p b1 b2 b3 n now es L ad W R w' := ⟨.of_below hb, h.below hb⟩
/-- What a Sleep comes to. -/
def SlR (n : Nat) (now : Int) (L : List En) (ad : Nat) (W : List (Int × Int)) (R : List Int) (q g d : Int) (is : Bool) (c : Int) (L' : List En) (ad' : Nat) : Prop :=
  (c = 0 ∧ dueS now L' W R = is ∧ L' = insF (sat now (max d 0), (ad : Int), g) L ∧ ad' = ad + 1 ∧ hasG L g = false ∧ waitsG W g = false ∧ 0 ≤ q ∧ q < n ∧ 0 ≤ g ∧ g < 4096) ∨ (c ≠ 0 ∧ is = false ∧ L' = L ∧ ad' = ad)
theorem sleepP (h : Sq Z w s t p b1 b2 b3 n now es L ad W R) (hl : L.length < 100000) (had : ad < 1000000) (q g d : Int) (hd : inI d) :
    Calls Try.prog 16 #[.pointer (some ⟨s, 0, none⟩), .int .i64 q, .int .i64 g, .int .i64 d] w fun e w' =>
      ∃ is c es' L' ad', e = .returned (.tuple #[.bool is, .int .i64 c]) ∧ OkPost Z w s t p b1 b2 b3 n now es' L' ad' W R w' ∧ SlR n now L ad W R q g d is c L' ad' := by
  by_cases hq : 0 ≤ q ∧ q < n
  · rcases hw : waitsG W g with _ | _
    · by_cases hg : 0 ≤ g ∧ g < 4096
      · rcases hh : hasG L g with _ | _
        · refine (ssleep h q g d hq.1 hq.2 hg.1 hg.2 hd hh hw hl had _ rfl).mono ?_
          rintro e w' ⟨rfl, es', ok⟩
          exact ⟨_, 0, es', _, _, rfl, ok, .inl ⟨rfl, rfl, rfl, rfl, hh, hw, hq.1, hq.2, hg.1, hg.2⟩⟩
        · refine (ssleep_err h q g d hd (fun e => by rw [hw] at e; cases e) 8 (by decide) (fun y hy x => te_sameI (h.te.below hy) q g hq.1 hq.2 hg.1 hg.2 x hh)).mono ?_
          rintro e w' ⟨rfl, hb⟩
          exact ⟨_, 8, es, L, ad, rfl, h.ok0 hb, .inr ⟨by decide, rfl, rfl, rfl⟩⟩
      · refine (ssleep_err h q g d hd (fun e => by rw [hw] at e; cases e) 1 (by decide) (fun y hy x => te_arg (h.te.below hy) q g x (by omega))).mono ?_
        rintro e w' ⟨rfl, hb⟩
        exact ⟨_, 1, es, L, ad, rfl, h.ok0 hb, .inr ⟨by decide, rfl, rfl, rfl⟩⟩
    · refine (ssleep_waits h q g d hq.1 hq.2 hw).mono ?_
      rintro e w' ⟨rfl, hb⟩
      exact ⟨_, 8, es, L, ad, rfl, h.ok0 hb, .inr ⟨by decide, rfl, rfl, rfl⟩⟩
  · refine (ssleep_err h q g d hd (fun _ => by omega) 1 (by decide) (fun y hy x => te_arg (h.te.below hy) q g x (by omega))).mono ?_
    rintro e w' ⟨rfl, hb⟩
    exact ⟨_, 1, es, L, ad, rfl, h.ok0 hb, .inr ⟨by decide, rfl, rfl, rfl⟩⟩
theorem plen_le (W : List (Int × Int)) (R : List Int) : plen W R ≤ W.length + R.length := by
  unfold plen
  have := List.length_filter_le (fun a => !waitsF W a) R
  omega
theorem not_full (h : W.length + R.length < 1024) (b : Bool) : (b && decide (1024 ≤ plen W R)) = false := by
  have := plen_le W R
  rw [decide_eq_false (by omega), Bool.and_false]
/-- What a Wait comes to. -/
def WaR (now : Int) (L : List En) (W : List (Int × Int)) (R : List Int) (fd a : Int) (is : Bool) (c : Int) (W' : List (Int × Int)) : Prop :=
  (c = 0 ∧ dueS now L W' R = is ∧ W' = (fd, a) :: W ∧ hasG L a = false ∧ waitsG W a = false ∧ waitsF W fd = false ∧ 0 ≤ a ∧ a < 4096) ∨ (c ≠ 0 ∧ is = false ∧ W' = W)
theorem waitP (h : Sq Z w s t p b1 b2 b3 n now es L ad W R) (hl : W.length + R.length < 1024) (fd a : Int) :
    Calls Try.prog 23 #[.pointer (some ⟨s, 0, none⟩), .int .u16 fd, .int .i64 a] w fun e w' =>
      ∃ is c W', e = .returned (.tuple #[.bool is, .int .i64 c]) ∧ OkPost Z w s t p b1 b2 b3 n now es L ad W' R w' ∧ WaR now L W R fd a is c W' := by
  rcases hh : hasG L a with _ | _
  · by_cases hg : 0 ≤ a ∧ a < 4096
    · by_cases hs : waitsF W fd = true ∨ waitsG W a = true
      · refine (swait_err h fd a hh 8 (by decide) ((pwait_same h.pq fd a hg.1 hg.2 hs).mono ?_)).mono ?_
        · rintro e w' ⟨rfl, rfl⟩; exact ⟨rfl, Below.refl _ _⟩
        · rintro e w' ⟨rfl, hb⟩
          exact ⟨_, 8, W, rfl, h.ok0 hb, .inr ⟨by decide, rfl, rfl⟩⟩
      · have hwf : waitsF W fd = false := Bool.eq_false_iff.2 fun h => hs (.inl h)
        have hwg : waitsG W a = false := Bool.eq_false_iff.2 fun h => hs (.inr h)
        refine (swait h (by omega) fd a hg.1 hg.2 hwf hwg hh (by rw [not_full hl]) _ rfl).mono ?_
        rintro e w' ⟨rfl, ok⟩
        exact ⟨_, 0, _, rfl, ok, .inl ⟨rfl, rfl, rfl, hh, hwg, hwf, hg.1, hg.2⟩⟩
    · refine (swait_err h fd a hh 1 (by decide) ((pwait_arg fd a (by omega) w).mono ?_)).mono ?_
      · rintro e w' ⟨rfl, rfl⟩; exact ⟨rfl, Below.refl _ _⟩
      · rintro e w' ⟨rfl, hb⟩
        exact ⟨_, 1, W, rfl, h.ok0 hb, .inr ⟨by decide, rfl, rfl⟩⟩
  · refine (swait_has h fd a hh).mono ?_
    rintro e w' ⟨rfl, hb⟩
    exact ⟨_, 8, W, rfl, h.ok0 hb, .inr ⟨by decide, rfl, rfl⟩⟩
theorem readyP (h : Sq Z w s t p b1 b2 b3 n now es L ad W R) (hl : W.length + R.length < 1024) (fd : Int) :
    Calls Try.prog 26 #[.pointer (some ⟨s, 0, none⟩), .int .u16 fd] w fun e w' => e = .returned (.tuple #[.bool (dueS now L W (addR R fd)), .int .i64 0]) ∧ OkPost Z w s t p b1 b2 b3 n now es L ad W (addR R fd) w' :=
  sready h (by omega) fd (by rw [not_full hl]) _ rfl
theorem addR_len (R : List Int) (fd : Int) : (addR R fd).length ≤ R.length + 1 := by unfold addR; split <;> simp
theorem addR_nodup {fd : Int} (h : R.Nodup) : (addR R fd).Nodup := by
  unfold addR
  split
  · exact h
  · rename_i hn; exact List.nodup_cons.2 ⟨hn, h⟩
/-- What stands between two rounds of a law over acts. -/
structure Ss (w : World) (Z : Nat → Prop) (s t p b1 b2 b3 n : Nat) (k : Nat) (now : Int) (es : Nat → List En) (L : List En) (ad : Nat) (W : List (Int × Int)) (R : List Int) (wr : World) : Prop where
  sq : Sq Z wr s t p b1 b2 b3 n now es L ad W R
  ln : L.length ≤ k ∧ W.length ≤ k ∧ R.length ≤ k ∧ ad ≤ k
  bl : Below w.heap.size w wr
  zb : ∀ q, q < w.heap.size → Z q
variable {k : Nat} {wr w5 : World}
theorem Ss.below (h : Ss w Z s t p b1 b2 b3 n k now es L ad W R wr) (hb : Below wr.heap.size wr w5) : Ss w Z s t p b1 b2 b3 n k now es L ad W R w5 :=
  ⟨h.sq.below hb, h.ln, h.bl.trans (hb.mono h.bl.size), h.zb⟩
theorem Ss.more (h : Ss w Z s t p b1 b2 b3 n k now es L ad W R wr) : Ss w Z s t p b1 b2 b3 n (k + 1) now es L ad W R wr :=
  ⟨h.sq, by have := h.ln; omega, h.bl, h.zb⟩
theorem Ss.step {now' : Int} {es' : Nat → List En} {L' : List En} {ad' : Nat} {W' : List (Int × Int)} {R' : List Int} (h : Ss w Z s t p b1 b2 b3 n k now es L ad W R wr) (ok : OkPost Z wr s t p b1 b2 b3 n now' es' L' ad' W' R' w5) (hl : L'.length ≤ k + 1 ∧ W'.length ≤ k + 1 ∧ R'.length ≤ k + 1 ∧ ad' ≤ k + 1) : Ss w Z s t p b1 b2 b3 n (k + 1) now' es' L' ad' W' R' w5 :=
  ⟨ok.2, hl, h.bl.trans (ok.1.below h.zb h.bl.size), h.zb⟩
end
end Go.Proofs.Ytaogpodncphpjaa
