/- A new world of any config while it is read. -/
import Derived.Test.YtfpkgkjmpcoppaaGreatDoorWcT
namespace Go.Proofs.YtfpkgkjmpcoppaaGreatDoor
open Go.RowKit
set_option linter.unusedVariables false
set_option linter.unusedSimpArgs false
set_option maxRecDepth 20000
theorem card_idf (P : Nat) : ∀ n, n ≤ P → card (idf P) n = n - 1
  | 0, _ => rfl
  | n + 1, h => by
    simp only [card]
    rw [card_idf P n (by omega)]
    rcases n with _ | n
    · simp [idf]
    · have e : idf P (n + 1) = true := by simp [idf]; omega
      rw [e]
      simp
/-- What is read of a new world; c accesses of what is seen so far. -/
structure Nc (N0 P M : Nat) (G : Int) (W b1 b2 g2 tb q p sb ib mb : Nat) (r : Option Nat) (a9 : Option Addr) (c9 : Nat) (lg : Value) (base : Nat) (Z : Nat → Prop) (xs : List Int) (c : Nat) (y : World) : Prop where
  hW : WH y W P M G (2 * ((P : Int) + 2)) (2 * ((P : Int) + 2) + 1) (2 * ((P : Int) + 2) + 1 + (M : Int)) b1 b2 (.slice a9 P c9) tb q sb ib mb lg
  m2 : Mem y b2 g2 xs c
  xl : (xs.length : Int) = 2 * ((P : Int) + 2) + 1 + (M : Int) + G
  x0 : xs.getD (2 * ((P : Int) + 2)).toNat 0 = 0
  x1 : xs.getD (2 * ((P : Int) + 2) + 1 + (M : Int) + 0).toNat 0 = 1
  x2 : ∀ j : Int, 0 < j → j < G → xs.getD (2 * ((P : Int) + 2) + 1 + (M : Int) + j).toNat 0 = 0
  qu : Qu y q p P r [0]
  id : Ids Z ib P (idf P) [] M (ssOf M) (plOf M) y
  mc : ∃ cs, y.heap[mb]? = some (.cells cs 101 (0, 0)) ∧ ∀ j, j < 20 → cs[j]? = (mf 1 0)[j]?
  lgr : Lg y base lg 1 [.int .i64 0, .int .i64 0, .int .i64 (-1), .int .i64 (-1), .int .i64 0]
  ap : (W ≠ b2 ∧ W ≠ g2) ∧ (q ≠ b2 ∧ q ≠ g2) ∧ (p ≠ b2 ∧ p ≠ g2) ∧ (mb ≠ b2 ∧ mb ≠ g2) ∧ (Z b2 ∧ Z g2) ∧ (N0 ≤ b2 ∧ N0 ≤ g2)
  ar : ∀ k, r = some k → k ≠ b2 ∧ k ≠ g2
  al : ∀ k, lg.ownBlock = some k → k ≠ b2 ∧ k ≠ g2
  tb' : 7 < N0
theorem Nf.nc {P M : Nat} {G : Int} {W b1 g1 b2 g2 tb q p sb ib mb : Nat} {r : Option Nat} {rv lg : Value} {base rbase wd N0 : Nat} {Z : Nat → Prop} {y : World} (h : Nf P M G W b1 g1 b2 g2 tb q p sb ib mb r rv lg base rbase wd N0 Z y) (hG : 1 ≤ G) (hP : 1 ≤ P) (hT : 7 < N0) :
    ∃ a9 c9 xs, Nc N0 P M G W b1 b2 g2 tb q p sb ib mb r a9 c9 lg base Z xs 1 y := by
  obtain ⟨ys, ho⟩ := h.own
  have hwd := h.hwd
  obtain ⟨_, ⟨e1, e2⟩ | ⟨g, cap, cur, e, _⟩⟩ := ho
  · omega
  · obtain ⟨cs, c1, _, c3⟩ := h.mc
    have hW := h.hW
    rw [e] at hW
    refine ⟨_, cap, _, hW, h.m2, by rw [List.length_set, List.length_replicate]; exact hwd, ?_, ?_, fun j h0 h1 => ?_, h.qu, h.id, ⟨cs, c1, c3⟩, h.lgr, h.ap, h.ar, h.al, hT⟩
    · rw [List.getD_eq_getElem?_getD, List.getElem?_set_ne (by omega), List.getElem?_replicate]; split <;> rfl
    · rw [List.getD_eq_getElem?_getD, List.getElem?_set_self (by rw [List.length_replicate]; omega)]; rfl
    · rw [List.getD_eq_getElem?_getD, List.getElem?_set_ne (by omega), List.getElem?_replicate]; split <;> rfl
section
variable {N0 P M : Nat} {G : Int} {W b1 b2 g2 tb q p sb ib mb : Nat} {r : Option Nat} {a9 : Option Addr} {c9 : Nat} {lg : Value} {base : Nat} {Z : Nat → Prop} {xs : List Int} {c : Nat} {y y' : World}
theorem Nc.kept (h : Nc N0 P M G W b1 b2 g2 tb q p sb ib mb r a9 c9 lg base Z xs c y) {c' : Nat} (hs : y.heap.size ≤ y'.heap.size) (hk : ∀ k, k < y.heap.size → k ≠ b2 → k ≠ g2 → y'.heap[k]? = y.heap[k]?) (hm : Mem y' b2 g2 xs c') : Nc N0 P M G W b1 b2 g2 tb q p sb ib mb r a9 c9 lg base Z xs c' y' := by
  obtain ⟨⟨p1, p2⟩, ⟨p3, p4⟩, ⟨p5, p6⟩, ⟨p7, p8⟩, ⟨p9, p10⟩, p11, p12⟩ := h.ap
  obtain ⟨cs, c1, c2⟩ := h.mc
  have hT := h.tb'
  have hz := h.id.zl
  have s2 := hz _ p9
  exact ⟨(hk W (blk_lt h.hW) p1 p2).trans h.hW, hm, h.xl, h.x0, h.x1, h.x2, ⟨(hk q h.qu.lt p3 p4).trans h.qu.hq, h.qu.hb.kept (hk p h.qu.hb.lt p5 p6) (fun k hr => hk k (h.qu.hb.rlt k hr) (h.ar k hr).1 (h.ar k hr).2), h.qu.ne, h.qu.nr, h.qu.lo, h.qu.hi⟩,
    h.id.rez (fun k h1 h2 => hk k h2 (fun e => h1 (e ▸ p9)) (fun e => h1 (e ▸ p10))) (hk _ (by omega) (by omega) (by omega)) (fun k h1 _ => h1) (fun k h1 => Nat.lt_of_lt_of_le (hz k h1) hs) h.id.hz, ⟨cs, (hk mb (blk_lt c1) p7 p8).trans c1, c2⟩, h.lgr.kept (fun k e => hk k (h.lgr.lt k e).2 (h.al k e).1 (h.al k e).2), h.ap, h.ar, h.al, h.tb'⟩
theorem Nc.below (h : Nc N0 P M G W b1 b2 g2 tb q p sb ib mb r a9 c9 lg base Z xs c y) (hb : Below y.heap.size y y') : Nc N0 P M G W b1 b2 g2 tb q p sb ib mb r a9 c9 lg base Z xs c y' :=
  h.kept hb.size (fun k hk _ _ => hb.block k hk) (h.m2.below hb h.m2.sb h.m2.sg)
end
/-- A new world beside the law's box of its config. -/
def Rw (w0 : World) (P M : Nat) (G : Int) (E x c : Nat) (y : World) : Prop :=
  Below w0.heap.size w0 y ∧ y.heap[E]? = some (.cells #[.int .i64 (P : Int), .int .i64 (M : Int), .int .i64 G] 24 (0, 0)) ∧ ∃ b1 b2 g2 tb q p sb ib mb r a9 c9 lg base Z xs, (E ≠ b2 ∧ E ≠ g2) ∧ Nc w0.heap.size P M G x b1 b2 g2 tb q p sb ib mb r a9 c9 lg base Z xs c y
section
variable {w0 y y' : World} {P M : Nat} {G : Int} {E x c : Nat}
theorem Rw.below (h : Rw w0 P M G E x c y) (hb : Below y.heap.size y y') : Rw w0 P M G E x c y' := by
  obtain ⟨h1, h2, b1, b2, g2, tb, q, p, sb, ib, mb, r, a9, c9, lg, base, Z, xs, h3, h4⟩ := h
  exact ⟨h1.trans (hb.mono h1.size), (hb.block _ (blk_lt h2)).trans h2, b1, b2, g2, tb, q, p, sb, ib, mb, r, a9, c9, lg, base, Z, xs, h3, h4.below hb⟩
theorem Rw.cf (h : Rw w0 P M G E x c y) : y.cell? ⟨E, 0, none⟩ = some (.int .i64 (P : Int)) ∧ y.cell? ⟨E, 1, none⟩ = some (.int .i64 (M : Int)) ∧ y.cell? ⟨E, 2, none⟩ = some (.int .i64 G) :=
  ⟨blk_cell h.2.1 rfl, blk_cell h.2.1 rfl, blk_cell h.2.1 rfl⟩
/-- Behind an access of what is seen. -/
theorem rw_only {b1 b2 g2 tb q p sb ib mb : Nat} {r : Option Nat} {a9 : Option Addr} {c9 : Nat} {lg : Value} {base : Nat} {Z : Nat → Prop} {xs : List Int} (h1 : Below w0.heap.size w0 y) (h2 : y.heap[E]? = some (.cells #[.int .i64 (P : Int), .int .i64 (M : Int), .int .i64 G] 24 (0, 0))) (h3 : E ≠ b2 ∧ E ≠ g2) (h4 : Nc w0.heap.size P M G x b1 b2 g2 tb q p sb ib mb r a9 c9 lg base Z xs c y) (hm : Mem y' b2 g2 xs (c + 1)) (ho : Only b2 g2 y y') : Rw w0 P M G E x (c + 1) y' := by
  have hap := h4.ap.2.2.2.2.2
  have hs := h1.size
  refine ⟨⟨ho.os.trans h1.os, ho.tape.trans h1.tape, ho.output.trans h1.output, Nat.le_trans h1.size ho.size, fun k hk => (ho.block k (by omega) (by omega) (by omega)).trans (h1.block k hk)⟩, (ho.block E (blk_lt h2) h3.1 h3.2).trans h2, b1, b2, g2, tb, q, p, sb, ib, mb, r, a9, c9, lg, base, Z, xs, h3, h4.kept ho.size (fun k hk a b => ho.block k hk a b) hm⟩
theorem rConfig (h : Rw w0 P M G E x c y) : Calls Tryz.prog 10 #[.pointer (some ⟨x, 0, none⟩)] y fun e y' => e = .returned (.agg #[.int .i64 (P : Int), .int .i64 (M : Int), .int .i64 G]) ∧ Rw w0 P M G E x c y' := by
  obtain ⟨h1, h2, b1, b2, g2, tb, q, p, sb, ib, mb, r, a9, c9, lg, base, Z, xs, h3, h4⟩ := id h
  exact (gconfig h4.hW).mono fun e y' ⟨he, hb⟩ => ⟨he, h.below hb⟩
theorem rStat0 (h : Rw w0 P M G E x c y) (hG : 1 ≤ G) (hG2 : G ≤ 4096) (hP2 : P ≤ 64) (hM2 : M ≤ 128) (hc : c < 100) : Calls Tryz.prog 11 #[.pointer (some ⟨x, 0, none⟩), .int .i64 0] y fun e y' => e = .returned (.int .u64 1) ∧ Rw w0 P M G E x (c + 1) y' := by
  obtain ⟨h1, h2, b1, b2, g2, tb, q, p, sb, ib, mb, r, a9, c9, lg, base, Z, xs, h3, h4⟩ := h
  have hl := h4.xl
  exact (gstat h4.hW h4.m2 (by omega) (by omega) (by omega) (by omega) (by omega) (by omega) h4.x1 (by omega)).mono fun e y' ⟨he, hm, ho⟩ => ⟨he, rw_only h1 h2 h3 h4 hm ho⟩
theorem rStatL (h : Rw w0 P M G E x c y) (v : Int) (hG : 1 ≤ G) (hG2 : G ≤ 4096) (hP2 : P ≤ 64) (hM2 : M ≤ 128) (hv : v = if G = 1 then 1 else 0) (hc : c < 100) : Calls Tryz.prog 11 #[.pointer (some ⟨x, 0, none⟩), .int .i64 (G - 1)] y fun e y' => e = .returned (.int .u64 v) ∧ Rw w0 P M G E x (c + 1) y' := by
  by_cases h1 : G = 1
  · subst h1
    rw [if_pos rfl] at hv
    subst hv
    exact rStat0 h (by omega) (by omega) hP2 hM2 hc
  · rw [if_neg h1] at hv
    subst hv
    obtain ⟨h1, h2, b1, b2, g2, tb, q, p, sb, ib, mb, r, a9, c9, lg, base, Z, xs, h3, h4⟩ := h
    have hl := h4.xl
    exact (gstat h4.hW h4.m2 (by omega) (by omega) (by omega) (by omega) (by omega) (by omega) (h4.x2 (G - 1) (by omega) (by omega)) (by omega)).mono fun e y' ⟨he, hm, ho⟩ => ⟨he, rw_only h1 h2 h3 h4 hm ho⟩
theorem rStatG (h : Rw w0 P M G E x c y) (hG : 1 ≤ G) : Calls Tryz.prog 11 #[.pointer (some ⟨x, 0, none⟩), .int .i64 G] y fun e y' => e = .returned (.int .u64 0) ∧ Rw w0 P M G E x c y' := by
  obtain ⟨h1, h2, b1, b2, g2, tb, q, p, sb, ib, mb, r, a9, c9, lg, base, Z, xs, h3, h4⟩ := id h
  exact (gstat_out h4.hW (by omega) (by omega)).mono fun e y' ⟨he, hb⟩ => ⟨he, h.below hb⟩
theorem rEvents (h : Rw w0 P M G E x c y) : Calls Tryz.prog 12 #[.pointer (some ⟨x, 0, none⟩)] y fun e y' => ∃ a n, e = .returned (.slice a 1 n) ∧ Rw w0 P M G E x c y' := by
  obtain ⟨h1, h2, b1, b2, g2, tb, q, p, sb, ib, mb, r, a9, c9, lg, base, Z, xs, h3, h4⟩ := id h
  exact (gevents (blk_cell h4.hW rfl) h4.lgr (by simp [Value.oneCell'])).mono fun e y' ⟨a, n, he, hb⟩ => ⟨a, n, he, h.below hb⟩
theorem rGlobal (h : Rw w0 P M G E x c y) : Calls Tryz.prog 13 #[.pointer (some ⟨x, 0, none⟩)] y fun e y' => ∃ a n, e = .returned (.slice a 1 n) ∧ Rw w0 P M G E x c y' := by
  obtain ⟨h1, h2, b1, b2, g2, tb, q, p, sb, ib, mb, r, a9, c9, lg, base, Z, xs, h3, h4⟩ := id h
  refine (gglobal h4.hW h4.qu).mono ?_
  rintro e y' ⟨v, rfl, ho, hb⟩
  obtain ⟨a, n, rfl⟩ := ho.slice
  exact ⟨a, n, rfl, h.below hb⟩
theorem rMach (h : Rw w0 P M G E x c y) (hM : 0 < M) : Calls Tryz.prog 14 #[.pointer (some ⟨x, 0, none⟩), .int .i64 0] y fun e y' => ∃ a n k, e = .returned (.agg (mS (.slice a n k))) ∧ Rw w0 P M G E x c y' := by
  obtain ⟨h1, h2, b1, b2, g2, tb, q, p, sb, ib, mb, r, a9, c9, lg, base, Z, xs, h3, h4⟩ := id h
  obtain ⟨cs, c1, c2⟩ := h4.mc
  exact (gmach (blk_cell h4.hW rfl) hM c1 c2).mono fun e y' ⟨a, n, k, he, hb⟩ => ⟨a, n, k, he, h.below hb⟩
theorem rSpin (h : Rw w0 P M G E x c y) (hG : 1 ≤ G) (hG2 : G ≤ 4096) (hP2 : P ≤ 64) (hM2 : M ≤ 128) (hc : c < 100) : Calls Tryz.prog 15 #[.pointer (some ⟨x, 0, none⟩)] y fun e y' => e = .returned (.int .u64 0) ∧ Rw w0 P M G E x (c + 1) y' := by
  obtain ⟨h1, h2, b1, b2, g2, tb, q, p, sb, ib, mb, r, a9, c9, lg, base, Z, xs, h3, h4⟩ := h
  have hl := h4.xl
  exact (gspin h4.hW h4.m2 (by omega) (by omega) (by omega) h4.x0).mono fun e y' ⟨he, hm, ho⟩ => ⟨he, rw_only h1 h2 h3 h4 hm ho⟩
/-- The world and a copy of its idle ones. -/
def Ri (w0 : World) (P M : Nat) (G : Int) (E x c i : Nat) (y : World) : Prop := Rw w0 P M G E x c y ∧ ∃ Z, Ids Z i P (idf P) [] M (ssOf M) (plOf M) y
theorem rIdle (h : Rw w0 P M G E x c y) (hP : 0 < P) (hM2 : M ≤ 128) : Calls Tryz.prog 16 #[.pointer (some ⟨x, 0, none⟩)] y fun e y' => ∃ i, e = .returned (.pointer (some ⟨i, 0, none⟩)) ∧ Ri w0 P M G E x c i y' := by
  obtain ⟨h1, h2, b1, b2, g2, tb, q, p, sb, ib, mb, r, a9, c9, lg, base, Z, xs, h3, h4⟩ := id h
  exact (gidle h4.hW h4.id hP (by rw [ssOf_len]; omega)).mono fun e y' ⟨he, hi, hb⟩ => ⟨_, he, h.below hb, _, hi⟩
theorem iCM {i : Nat} (h : Ri w0 P M G E x c i y) : Calls Tryz.prog 17 #[.pointer (some ⟨i, 0, none⟩)] y fun e y' => e = .returned (.int .i64 ((M - 2 : Nat) : Int)) ∧ y' = y := by
  obtain ⟨_, Z, hz⟩ := h
  exact (iCountM hz (M - 2) (ssOf_len M)).mono fun e y' ⟨a, b⟩ => ⟨a, b.symm⟩
theorem iCP {i : Nat} (h : Ri w0 P M G E x c i y) (hP : 0 < P) : Calls Tryz.prog 19 #[.pointer (some ⟨i, 0, none⟩)] y fun e y' => e = .returned (.int .i64 ((P : Int) - 1)) ∧ y' = y := by
  obtain ⟨_, Z, hz⟩ := h
  refine (countP_any hz).mono ?_
  rintro e y' ⟨he, hy⟩
  rw [card_idf P P (Nat.le_refl _)] at he
  exact ⟨by rw [he]; congr 2; omega, hy.symm⟩
theorem iPol {i : Nat} (h : Ri w0 P M G E x c i y) : Calls Tryz.prog 18 #[.pointer (some ⟨i, 0, none⟩)] y fun e y' => (∃ n, e = .returned (.tuple #[.int .i64 n, .bool (decide (1 < M))])) ∧ y' = y := by
  obtain ⟨_, Z, hz⟩ := h
  by_cases hM : M ≤ 1
  · have e1 : plOf M = -1 := if_pos hM
    rw [e1] at hz
    rw [decide_eq_false (by omega)]
    exact (iPoller_no hz).mono fun e y' ⟨a, b⟩ => ⟨⟨_, a⟩, b.symm⟩
  · have e1 : plOf M = 1 := if_neg hM
    rw [e1] at hz
    rw [decide_eq_true (by omega)]
    exact (iPoller_yes hz (by omega)).mono fun e y' ⟨a, b⟩ => ⟨⟨_, a⟩, b.symm⟩
theorem rAsleep (h : Rw w0 P M G E x c y) : Calls Tryz.prog 20 #[.pointer (some ⟨x, 0, none⟩), .int .i64 (M : Int)] y fun e y' => e = .returned (.bool false) ∧ Rw w0 P M G E x c y' := by
  obtain ⟨h1, h2, b1, b2, g2, tb, q, p, sb, ib, mb, r, a9, c9, lg, base, Z, xs, h3, h4⟩ := id h
  exact (gasleep h4.hW).mono fun e y' ⟨he, hb⟩ => ⟨he, h.below hb⟩
theorem rRing (h : Rw w0 P M G E x c y) : Calls Tryz.prog 21 #[.pointer (some ⟨x, 0, none⟩), .int .i64 (P : Int)] y fun e y' => e = .returned (.slice none 0 0) ∧ y' = y := by
  obtain ⟨h1, h2, b1, b2, g2, tb, q, p, sb, ib, mb, r, a9, c9, lg, base, Z, xs, h3, h4⟩ := id h
  exact gring h4.hW
theorem rw_new {N : World} (hok : OkC P M G) (hN : Nw0 N P M G x y) (hw : Below w0.heap.size w0 N) (hE : N.heap[E]? = some (.cells #[.int .i64 (P : Int), .int .i64 (M : Int), .int .i64 G] 24 (0, 0))) (hT : 7 < w0.heap.size) : Rw w0 P M G E x 1 y := by
  obtain ⟨hb, b1, g1, b2, g2, tb, q, p, sb, ib, mb, r, rv, lg, base, rbase, wd, Z, hf⟩ := hN
  obtain ⟨o1, o2, o3, o4, o5, o6⟩ := hok
  have hs := hw.size
  obtain ⟨a9, c9, xs, hc⟩ := hf.nc o5 (by omega) (by omega)
  have hlt := blk_lt hE
  have hap := hc.ap
  refine ⟨hw.trans (hb.mono hs), (hb.block _ hlt).trans hE, b1, b2, g2, tb, q, p, sb, ib, mb, r, a9, c9, lg, base, Z, xs, ⟨by omega, by omega⟩, ⟨hc.hW, hc.m2, hc.xl, hc.x0, hc.x1, hc.x2, hc.qu, hc.id, hc.mc, hc.lgr, ⟨hap.1, hap.2.1, hap.2.2.1, hap.2.2.2.1, hap.2.2.2.2.1, by omega, by omega⟩, hc.ar, hc.al, hT⟩⟩
end
end Go.Proofs.YtfpkgkjmpcoppaaGreatDoor
