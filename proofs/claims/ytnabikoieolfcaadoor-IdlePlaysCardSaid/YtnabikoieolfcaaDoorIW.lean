/- The Idle beside the document's: the relation; each act's two contracts at once. -/
import Derived.Test.YtnabikoieolfcaaDoorIdsC
namespace Go.Proofs.YtnabikoieolfcaaDoor
set_option linter.unusedVariables false
set_option linter.unusedSimpArgs false
open Go.RowKit
structure IM (np : Nat) (f : Nat → Bool) (Pl Q M : List Int) (pl : Int) : Prop where
  rg : ∀ x ∈ Pl, 0 ≤ x ∧ x < (np : Int)
  ff : ∀ i : Nat, i < np → f i = hasB (i : Int) Pl
  nd : Pl.Nodup
  qd : Q.Nodup
  md : M.Nodup
  pl : pl = -1 ∨ 0 ≤ pl
  c : card f np = Pl.length
theorem hasB_iff {g : Int} {l : List Int} : hasB g l = true ↔ g ∈ l := by simp [hasB]
theorem hasB_no {g : Int} {l : List Int} : hasB g l = false ↔ g ∉ l := by simp [hasB]
theorem IM.inF {np : Nat} {f : Nat → Bool} {Pl Q M : List Int} {pl : Int} (h : IM np f Pl Q M pl) (i : Int) : inF f np i = hasB i Pl := by
  by_cases hi : i < 0 ∨ (np : Int) ≤ i
  · rw [inF_out hi]
    exact (hasB_no.2 (fun hm => by have := h.rg i hm; omega)).symm
  · obtain ⟨k, rfl⟩ : ∃ k : Nat, i = k := ⟨i.toNat, by omega⟩
    rw [inF_in (by omega)]
    exact h.ff k (by omega)
theorem nodup_snoc {l : List Int} {x : Int} (h : l.Nodup) (hx : x ∉ l) : (l ++ [x]).Nodup := by
  rw [List.nodup_append]
  exact ⟨h, by simp, fun a ha b hb e => by simp at hb; subst hb; subst e; exact hx ha⟩
theorem but_cons {m : Int} {l : List Int} (h : (m :: l).Nodup) : butI m (m :: l) = l := by
  rw [List.nodup_cons] at h
  rw [butI, List.filter_cons, if_neg (by simp)]
  exact List.filter_eq_self.2 (fun x hx => by simp; exact fun e => h.1 (e ▸ hx))
theorem but_snoc {m : Int} {l : List Int} (h : (l ++ [m]).Nodup) : butI m (l ++ [m]) = l := by
  rw [List.nodup_append] at h
  rw [butI, List.filter_append]
  have : List.filter (fun x => !x == m) [m] = [] := by simp
  rw [this, List.append_nil]
  exact List.filter_eq_self.2 (fun x hx => by simp; exact fun e => h.2.2 x hx m (by simp) e)
theorem exists_least : ∀ {l : List Int}, l ≠ [] → ∃ b ∈ l, ∀ x ∈ l, b ≤ x
  | [], h => absurd rfl h
  | [a], _ => ⟨a, by simp, fun x hx => by simp at hx; omega⟩
  | a :: c :: l, _ => by
    obtain ⟨b, hb, hl⟩ := exists_least (l := c :: l) (by simp)
    by_cases h : a ≤ b
    · refine ⟨a, .head _, fun x hx => ?_⟩
      rcases List.mem_cons.1 hx with rfl | hx
      · omega
      · have := hl x hx; omega
    · refine ⟨b, .tail _ hb, fun x hx => ?_⟩
      rcases List.mem_cons.1 hx with rfl | hx
      · omega
      · exact hl x hx
theorem Ids.weak {Z Z' : Nat → Prop} {w : World} {x np : Nat} {f : Nat → Bool} {pd : List Int} {N : Int} {ss : List Int} {pl : Int} (h : Ids Z' x np f pd N ss pl w) (hz : ∀ q, Z q → Z' q) (hg : Z 0) : Ids Z x np f pd N ss pl w := by
  obtain ⟨mx, my, r, rp, W, pv, h1, h2⟩ := h.h
  exact ⟨⟨mx, my, r, rp, W, pv, ⟨h1.i, h1.p, h1.q, h1.m, h1.d1, h1.d2, h1.d3, h1.d4, h1.d5, h1.d6, h1.d7, h1.d8, fun e => h1.b1 (hz _ e), fun e => h1.b2 (hz _ e), fun e => h1.b3 (hz _ e), fun k hk e => h1.b4 k hk (hz _ e), fun k hk e => h1.b5 k hk (hz _ e), fun k e => h1.zl k (hz _ e)⟩, h2⟩, h.T, hg⟩
section
variable {x np : Nat} {f : Nat → Bool} {N : Int} {Pl Q M : List Int} {pl : Int}
/-- What an act of both does: the results, and the state behind it. -/
def Act2 (x np : Nat) (f : Nat → Bool) (N : Int) (Pl Q M : List Int) (pl : Int) (rs : List Value) (v : Value) (fd fp : FuncId) (ad ap : List Value) (f' : Nat → Bool) (Pl' Q' M' : List Int) (pl' : Int) : Prop :=
  (∀ (w : World) (vP vQ vM : Value), Di w vP vQ vM Pl Q M → Calls Tryd.prog fd (.agg (ix np N vP vQ vM pl) :: ad).toArray w (DiPost w vP vQ vM np N Pl' Q' M' pl' rs)) ∧
  (∀ (Z : Nat → Prop) (w : World), Ids Z x np f Q N M pl w → Calls Tryd.prog fp (.pointer (some ⟨x, 0, none⟩) :: ap).toArray w (DPost v Z x np f' Q' N M' pl' w)) ∧
  IM np f' Pl' Q' M' pl' ∧ Pl'.length ≤ Pl.length + 1 ∧ Q'.length ≤ Q.length + 1 ∧ M'.length ≤ M.length + 1
theorem frB_cases (np : Int) (Pl Q : List Int) (p : Int) : (frB np Pl Q p = true ∧ 0 ≤ p ∧ p < np ∧ hasB p Pl = false ∧ hasB p Q = false) ∨ (frB np Pl Q p = false ∧ ((p < 0 ∨ np ≤ p) ∨ hasB p Pl = true ∨ hasB p Q = true)) := by
  unfold frB
  by_cases h1 : 0 ≤ p
  · by_cases h2 : p < np
    · rw [decide_eq_true h1, decide_eq_true h2]
      rcases h3 : hasB p Pl with _ | _ <;> rcases h4 : hasB p Q with _ | _ <;> simp [h1, h2]
    · rw [decide_eq_false h2]; right; simp; omega
  · rw [decide_eq_false h1]; right; simp; omega
theorem IM.snocP (h : IM np f Pl Q M pl) {k : Nat} (hk : k < np) (hn : hasB (k : Int) Pl = false) : IM np (upd f k true) (Pl ++ [(k : Int)]) Q M pl := by
  refine ⟨fun x hx => ?_, fun i hi => ?_, nodup_snoc h.nd (hasB_no.1 hn), h.qd, h.md, h.pl, ?_⟩
  · rcases List.mem_append.1 hx with hx | hx
    · exact h.rg x hx
    · simp at hx; omega
  · rw [hasB_snoc, ← h.ff i hi]
    by_cases e : i = k
    · subst e; simp [upd]
    · have : ((k : Int) == (i : Int)) = false := by simp; omega
      simp [upd, e, this]
  · rw [card_put f hk (by rw [h.ff k hk]; exact hn), h.c]; simp
theorem act_put (h : IM np f Pl Q M pl) (lp : Pl.length < 1000) (lq : Q.length < 1000) (p : Int) : ∃ b f' Pl', Act2 x np f N Pl Q M pl [.bool b] (.bool b) 18 19 [.int .i64 p] [.int .i64 p] f' Pl' Q M pl := by
  rcases frB_cases np Pl Q p with ⟨e, h0, h1, h2, h3⟩ | ⟨e, hx⟩
  · obtain ⟨k, rfl⟩ : ∃ k : Nat, p = k := ⟨p.toNat, by omega⟩
    refine ⟨true, upd f k true, Pl ++ [(k : Int)], fun w vP vQ vM hd => rputp_yes w np N pl vP vQ vM Pl Q M hd k e lp, fun Z w hi => putP_yes hi k h3 (by omega) (by omega) (by rw [h.ff k (by omega)]; exact h2), h.snocP (by omega) h2, by simp, by simp, by simp⟩
  · refine ⟨false, f, Pl, fun w vP vQ vM hd => rputp_no w np N pl vP vQ vM Pl Q M hd p e, fun Z w hi => ?_, h, by simp, by simp, by simp⟩
    rcases hq : hasB p Q with _ | _
    · refine putP_no hi p hq (by omega) ?_
      rcases hx with hx | hx | hx
      · exact .inl hx
      · exact .inr (by rw [h.inF]; exact hx)
      · rw [hq] at hx; cases hx
    · exact putP_has hi p hq (by omega)
theorem act_pend (h : IM np f Pl Q M pl) (lq : Q.length < 1000) (p : Int) : ∃ b Q', Act2 x np f N Pl Q M pl [.bool b] (.bool b) 22 23 [.int .i64 p] [.int .i64 p] f Pl Q' M pl := by
  rcases frB_cases np Pl Q p with ⟨e, h0, h1, h2, h3⟩ | ⟨e, hx⟩
  · obtain ⟨k, rfl⟩ : ∃ k : Nat, p = k := ⟨p.toNat, by omega⟩
    exact ⟨true, Q ++ [(k : Int)], fun w vP vQ vM hd => rpend_yes w np N pl vP vQ vM Pl Q M hd k e lq, fun Z w hi => pend_yes hi k (by omega) (by omega) (by rw [h.ff k (by omega)]; exact h2) h3, ⟨h.rg, h.ff, h.nd, nodup_snoc h.qd (hasB_no.1 h3), h.md, h.pl, h.c⟩, by simp, by simp, by simp⟩
  · refine ⟨false, Q, fun w vP vQ vM hd => rpend_no w np N pl vP vQ vM Pl Q M hd p e, fun Z w hi => pend_no hi p (by omega) ?_, h, by simp, by simp, by simp⟩
    by_cases ho : p < 0 ∨ (np : Int) ≤ p
    · exact .inl ho
    · rcases hp : hasB p Pl with _ | _
      · rcases hx with hx | hx | hx
        · exact absurd hx ho
        · rw [hp] at hx; cases hx
        · exact .inr (.inr ⟨by omega, by omega, by rw [h.inF]; exact hp, hx⟩)
      · exact .inr (.inl ⟨by omega, by omega, by rw [h.inF]; exact hp⟩)
theorem act_takep (h : IM np f Pl Q M pl) : ∃ (n : Int) (b : Bool) (f' : Nat → Bool) (Pl' : List Int), Act2 x np f N Pl Q M pl [.int .i64 n, .bool b] (.tuple #[.int .i64 n, .bool b]) 20 21 [] [] f' Pl' Q M pl := by
  by_cases hP : Pl = []
  · subst hP
    exact ⟨0, false, f, [], fun w vP vQ vM hd => rtakep_none w np N pl vP vQ vM Q M hd, fun Z w hi => takeP_none hi (fun i hi => by rw [h.ff i hi]; simp [hasB]), h, by simp, by simp, by simp⟩
  · obtain ⟨b, hb, hl⟩ := exists_least hP
    have hr := h.rg b hb
    obtain ⟨k, rfl⟩ : ∃ k : Nat, b = k := ⟨b.toNat, by omega⟩
    have hfk : f k = true := by rw [h.ff k (by omega)]; exact hasB_iff.2 hb
    have hlen : (butI (k : Int) Pl).length + 1 = Pl.length := by
      have e := (List.perm_cons_erase hb)
      have e2 : butI (k : Int) Pl = Pl.erase (k : Int) := by rw [butI, h.nd.erase_eq_filter]; rfl
      rw [e2, List.length_erase_of_mem hb]
      have := List.length_pos_of_mem hb
      omega
    refine ⟨k, true, upd f k false, butI k Pl, fun w vP vQ vM hd => rtakep_least w np N pl vP vQ vM Pl Q M hd k hb hl, fun Z w hi => takeP_least hi k (by omega) hfk (fun i hi => by
      rw [h.ff i (by omega)]
      exact hasB_no.2 (fun hm => by have := hl i hm; omega)), ⟨fun y hy => h.rg y (List.mem_filter.1 hy).1, fun i hi => ?_, h.nd.filter _, h.qd, h.md, h.pl, ?_⟩, by omega, by simp, by simp⟩
    · by_cases e : i = k
      · subst e
        simp only [upd, if_true]
        exact (hasB_no.2 (fun hm => by simp [butI] at hm)).symm
      · simp only [upd, if_neg e]
        rw [h.ff i hi]
        have : ((i : Int) ∈ butI (k : Int) Pl) ↔ (i : Int) ∈ Pl := by
          simp only [butI, List.mem_filter]
          constructor
          · exact fun q => q.1
          · exact fun q => ⟨q, by simp; omega⟩
        unfold hasB
        exact decide_eq_decide.2 this.symm
    · have := card_take f (n := np) (show k < np by omega) hfk
      have := h.c
      omega
theorem act_takepend (h : IM np f Pl Q M pl) : ∃ (n : Int) (b : Bool) (Q' : List Int), Act2 x np f N Pl Q M pl [.int .i64 n, .bool b] (.tuple #[.int .i64 n, .bool b]) 24 25 [] [] f Pl Q' M pl := by
  rcases Q with _ | ⟨m, pd⟩
  · exact ⟨0, false, [], fun w vP vQ vM hd => rtakepend_none w np N pl vP vQ vM Pl M hd, fun Z w hi => takePend_none hi, h, by simp, by simp, by simp⟩
  · refine ⟨m, true, pd, fun w vP vQ vM hd => ?_, fun Z w hi => takePend_first m hi, ⟨h.rg, h.ff, h.nd, (List.nodup_cons.1 h.qd).2, h.md, h.pl, h.c⟩, by simp, by simp; omega, by simp⟩
    have := rtakepend_first w np N pl vP vQ vM Pl (m :: pd) M hd m pd rfl
    rw [but_cons h.qd] at this
    exact this
theorem act_takem (h : IM np f Pl Q M pl) (lm : M.length < 1000) : ∃ (n : Int) (b : Bool) (M' : List Int) (pl' : Int), Act2 x np f N Pl Q M pl [.int .i64 n, .bool b] (.tuple #[.int .i64 n, .bool b]) 26 15 [] [] f Pl Q M' pl' := by
  rcases List.eq_nil_or_concat M with rfl | ⟨ss, m, rfl⟩
  · rcases h.pl with rfl | hp
    · exact ⟨0, false, [], -1, fun w vP vQ vM hd => rtakem_none w np N (-1) vP vQ vM Pl Q hd (by omega), fun Z w hi => iTakeM_none hi, h, by simp, by simp, by simp⟩
    · exact ⟨pl, true, [], -1, fun w vP vQ vM hd => rtakem_poller w np N pl vP vQ vM Pl Q hd hp, fun Z w hi => iTakeM_poller hi hp, ⟨h.rg, h.ff, h.nd, h.qd, h.md, .inl rfl, h.c⟩, by simp, by simp, by simp⟩
  · simp only [List.concat_eq_append] at *
    refine ⟨m, true, ss, pl, fun w vP vQ vM hd => ?_, fun Z w hi => iTakeM_last m hi (by simp at lm; omega), ⟨h.rg, h.ff, h.nd, h.qd, (List.nodup_append.1 h.md).1, h.pl, h.c⟩, by simp, by simp, by simp; omega⟩
    have := rtakem_last w np N pl vP vQ vM Pl Q (ss ++ [m]) hd m ss rfl
    rw [but_snoc h.md] at this
    exact this
theorem act_stop (h : IM np f Pl Q M pl) (lm : M.length < 1000) (m : Int) : ∃ (a b : Bool) (M' : List Int) (pl' : Int), Act2 x np f N Pl Q M pl [.bool a, .bool b] (.tuple #[.bool a, .bool b]) 29 14 [.int .i64 m] [.int .i64 m] f Pl Q M' pl' := by
  by_cases hx : m < 0 ∨ N ≤ m ∨ m = pl ∨ hasB m M = true
  · refine ⟨false, false, M, pl, fun w vP vQ vM hd => rstop_no w np N pl vP vQ vM Pl Q M hd m hx, fun Z w hi => ?_, h, by simp, by simp, by simp⟩
    by_cases ho : m < 0 ∨ N ≤ m
    · exact iStop_out hi m ho
    · refine iStop_no hi m (by omega) (by omega) ?_ (by omega)
      by_cases he : m = pl
      · exact .inl he
      · rcases hx with h1 | h1 | h1 | h1
        · omega
        · omega
        · exact absurd h1 he
        · exact .inr ⟨he, h1⟩
  · have hs : hasB m M = false := by
      rcases hb : hasB m M with _ | _
      · rfl
      · exact absurd (.inr (.inr (.inr hb))) hx
    have h1 : 0 ≤ m ∧ m < N ∧ m ≠ pl := by
      refine ⟨?_, ?_, fun e => hx (.inr (.inr (.inl e)))⟩
      · exact Int.not_lt.1 fun e => hx (.inl e)
      · exact Int.not_le.1 fun e => hx (.inr (.inl e))
    rcases h.pl with rfl | hp
    · exact ⟨true, true, M, m, fun w vP vQ vM hd => rstop_first w np N (-1) vP vQ vM Pl Q M hd m h1.1 h1.2.1 h1.2.2 hs (by omega), fun Z w hi => iStop_first hi m h1.1 h1.2.1 hs (by omega), ⟨h.rg, h.ff, h.nd, h.qd, h.md, .inr h1.1, h.c⟩, by simp, by simp, by simp⟩
    · exact ⟨false, true, M ++ [m], pl, fun w vP vQ vM hd => rstop_more w np N pl vP vQ vM Pl Q M hd m h1.1 h1.2.1 h1.2.2 hs hp lm, fun Z w hi => iStop_more hi m hp h1.2.2 h1.1 h1.2.1 hs (by omega), ⟨h.rg, h.ff, h.nd, h.qd, nodup_snoc h.md (hasB_no.1 hs), h.pl, h.c⟩, by simp, by simp, by simp⟩
end
end Go.Proofs.YtnabikoieolfcaaDoor
