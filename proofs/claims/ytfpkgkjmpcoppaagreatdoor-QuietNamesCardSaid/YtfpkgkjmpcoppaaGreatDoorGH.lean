/- What other texts are built of: WhP, WhQ, WhC. -/
import Derived.Test.YtfpkgkjmpcoppaaGreatDoorWgX
import Derived.Test.YtfpkgkjmpcoppaaGreatDoorG1
import Derived.Test.YtfpkgkjmpcoppaaGreatDoorGI
import Derived.Deep.MidRow
/-! world.New of any config: its parts, each on blocks of its own. -/
namespace Go.Proofs.YtfpkgkjmpcoppaaGreatDoor
open Go.RowKit
set_option linter.unusedVariables false
set_option linter.unusedSimpArgs false
set_option maxRecDepth 20000
theorem Ids.rez {Z Z' : Nat → Prop} {w w' : World} {x np : Nat} {f : Nat → Bool} {pd : List Int} {N : Int} {ss : List Int} {pl : Int} (h : Ids Z x np f pd N ss pl w) (hk : ∀ k, ¬ Z k → k < w.heap.size → w'.heap[k]? = w.heap[k]?) (hg : w'.heap[7]? = w.heap[7]?)
    (hz : ∀ k, ¬ Z k → k < w.heap.size → ¬ Z' k) (zl : ∀ k, Z' k → k < w'.heap.size) (ht : Z' 7) : Ids Z' x np f pd N ss pl w' := by
  obtain ⟨mx, my, r, rp, W, pv, h0, h2⟩ := h.h
  exact ⟨⟨mx, my, r, rp, W, pv, ⟨h0.i.kept (hk _ h0.b1 h0.i.lt) (fun k e => hk k (h0.b4 k e) (h0.rlt e)), h0.p.kept (fun k e => hk k (h0.b5 k (by rw [← h0.q, e])) (owns_lt h0.p e)), h0.q, h0.m.kept (hk _ h0.b2 h0.m.sx) (hk _ h0.b3 h0.m.sy), h0.d1, h0.d2, h0.d3, h0.d4, h0.d5, h0.d6, h0.d7, h0.d8,
    hz _ h0.b1 h0.i.lt, hz _ h0.b2 h0.m.sx, hz _ h0.b3 h0.m.sy, fun k e => hz _ (h0.b4 k e) (h0.rlt e), fun k e => hz _ (h0.b5 k e) (h0.plt e), zl⟩, h2⟩, h.T.eq hg, ht⟩
/-- The parts made so far: 0 1 the memories, 2 turns, 3 the queue, 4 the source, 5 idle, 6 the machines. -/
def fo (o1 o2 o5 o6 o7 o9 o8 : Option Nat) : Nat → Option Nat
  | 0 => o1
  | 1 => o2
  | 2 => o5
  | 3 => o6
  | 4 => o7
  | 5 => o9
  | 6 => o8
  | _ => none
section
variable {o1 o2 o5 o6 o7 o9 o8 : Option Nat} {r : Nat}
theorem fo_0 : up (fo none o2 o5 o6 o7 o9 o8) 0 r = fo (some r) o2 o5 o6 o7 o9 o8 := by funext i; rcases i with _ | _ | _ | _ | _ | _ | _ | i <;> rfl
theorem fo_1 : up (fo o1 none o5 o6 o7 o9 o8) 1 r = fo o1 (some r) o5 o6 o7 o9 o8 := by funext i; rcases i with _ | _ | _ | _ | _ | _ | _ | i <;> rfl
theorem fo_2 : up (fo o1 o2 none o6 o7 o9 o8) 2 r = fo o1 o2 (some r) o6 o7 o9 o8 := by funext i; rcases i with _ | _ | _ | _ | _ | _ | _ | i <;> rfl
theorem fo_3 : up (fo o1 o2 o5 none o7 o9 o8) 3 r = fo o1 o2 o5 (some r) o7 o9 o8 := by funext i; rcases i with _ | _ | _ | _ | _ | _ | _ | i <;> rfl
theorem fo_4 : up (fo o1 o2 o5 o6 none o9 o8) 4 r = fo o1 o2 o5 o6 (some r) o9 o8 := by funext i; rcases i with _ | _ | _ | _ | _ | _ | _ | i <;> rfl
theorem fo_5 : up (fo o1 o2 o5 o6 o7 none o8) 5 r = fo o1 o2 o5 o6 o7 (some r) o8 := by funext i; rcases i with _ | _ | _ | _ | _ | _ | _ | i <;> rfl
theorem fo_6 : up (fo o1 o2 o5 o6 o7 o9 none) 6 r = fo o1 o2 o5 o6 o7 o9 (some r) := by funext i; rcases i with _ | _ | _ | _ | _ | _ | _ | i <;> rfl
theorem fo_no (i : Nat) : fo none none none none none none none i = none := by rcases i with _ | _ | _ | _ | _ | _ | _ | i <;> rfl
end
/-- What part i is, of blocks from lo up to hi. -/
def Prt (P M wd : Nat) (i b lo hi : Nat) (y : World) : Prop :=
  match i with
  | 0 | 1 => ∃ g, (lo ≤ b ∧ b < hi ∧ lo ≤ g ∧ g < hi) ∧ Mem y b g (List.replicate wd 0) 0
  | 3 => ∃ p r, (lo ≤ b ∧ b < hi ∧ lo ≤ p ∧ p < hi) ∧ (∀ k, r = some k → lo ≤ k ∧ k < hi) ∧ Qu y b p P r []
  | 5 => Ids (fun k => k < lo ∨ (hi ≤ k ∧ k < y.heap.size)) b P (fun _ => false) [] M [] (-1) y
  | 2 => (lo ≤ b ∧ b < hi) ∧ y.heap[b]? = some (.cells (madeCells #[.int .i64 0] P) 3 (0, 0))
  | 6 => (lo ≤ b ∧ b < hi) ∧ y.heap[b]? = some (.cells (madeCells mz (M * 20)) 101 (0, 0))
  | _ => True
theorem Prt.kept {P M wd i b lo hi : Nat} {y y' : World} (h : Prt P M wd i b lo hi y) (hh : hi ≤ y.heap.size) (hk : ∀ k, lo ≤ k → k < hi → y'.heap[k]? = y.heap[k]?) (hs : y.heap.size ≤ y'.heap.size) (hg : y'.heap[7]? = y.heap[7]?) (U : 7 < lo) : Prt P M wd i b lo hi y' := by
  rcases i with _ | _ | _ | _ | _ | _ | _ | i
  · obtain ⟨g, ⟨l1, l2, l3, l4⟩, hm⟩ := h
    exact ⟨g, ⟨l1, l2, l3, l4⟩, hm.blocks (hk b l1 l2) (hk g l3 l4)⟩
  · obtain ⟨g, ⟨l1, l2, l3, l4⟩, hm⟩ := h
    exact ⟨g, ⟨l1, l2, l3, l4⟩, hm.blocks (hk b l1 l2) (hk g l3 l4)⟩
  · obtain ⟨⟨l1, l2⟩, hm⟩ := h
    exact ⟨⟨l1, l2⟩, (hk b l1 l2).trans hm⟩
  · obtain ⟨p, r, ⟨l1, l2, l3, l4⟩, l5, hq⟩ := h
    exact ⟨p, r, ⟨l1, l2, l3, l4⟩, l5, ⟨(hk b l1 l2).trans hq.hq, hq.hb.kept (hk p l3 l4) (fun k e => hk k (l5 k e).1 (l5 k e).2), hq.ne, hq.nr, hq.lo, hq.hi⟩⟩
  · trivial
  · exact Ids.rez (show Ids (fun k => k < lo ∨ (hi ≤ k ∧ k < y.heap.size)) b P (fun _ => false) [] M [] (-1) y from h) (fun k h1 h2 => hk k (by omega) (by omega)) hg (fun k h1 h2 => by omega) (fun k h1 => by
      have := (show Ids (fun k => k < lo ∨ (hi ≤ k ∧ k < y.heap.size)) b P (fun _ => false) [] M [] (-1) y from h).zl
      rcases h1 with h1 | h1
      · have := this k (.inl h1); omega
      · exact h1.2) (.inl U)
  · obtain ⟨⟨l1, l2⟩, hm⟩ := h
    exact ⟨⟨l1, l2⟩, (hk b l1 l2).trans hm⟩
  · trivial
/-- What stands while a world's parts are made. -/
structure JC (w0 : World) (P M wd : Nat) (G : Int) (y : World) (f : Nat → Option Nat) : Prop where
  bl : Below w0.heap.size w0 y
  sn : SG w0.heap.size P M G y
  pr : ∃ I : Nat → Nat × Nat, (∀ i b, f i = some b → Prt P M wd i b (I i).1 (I i).2 y ∧ w0.heap.size ≤ (I i).1 ∧ (I i).2 ≤ y.heap.size) ∧ ∀ i j bi bj, i ≠ j → f i = some bi → f j = some bj → (I i).2 ≤ (I j).1 ∨ (I j).2 ≤ (I i).1
theorem JC.step {w0 y y' : World} {P M wd : Nat} {G : Int} {f : Nat → Option Nat} {i b : Nat} (h : JC w0 P M wd G y f) (U : 7 < w0.heap.size) (hf : f i = none) (hb : Below y.heap.size y y') (hp : Prt P M wd i b y.heap.size y'.heap.size y') : JC w0 P M wd G y' (up f i b) := by
  obtain ⟨I, hI, hd⟩ := h.pr
  have hs := hb.size
  have hs0 := h.bl.size
  have hc : ∀ (i : Nat) (v : Value), y.cell? ⟨w0.heap.size, i, none⟩ = some v → y'.cell? ⟨w0.heap.size, i, none⟩ = some v := fun i v e => (hb.cell (p := ⟨w0.heap.size, i, none⟩) (cell_lt e)).trans e
  refine ⟨h.bl.trans (hb.mono h.bl.size), ⟨hc _ _ h.sn.1, hc _ _ h.sn.2.1, hc _ _ h.sn.2.2⟩, fun j => if j = i then (y.heap.size, y'.heap.size) else I j, fun j b' e => ?_, fun j l bj bl hjl e1 e2 => ?_⟩
  · rcases up_some e with ⟨rfl, rfl⟩ | ⟨hne, e⟩
    · dsimp only; rw [if_pos rfl]
      exact ⟨hp, hs0, Nat.le_refl _⟩
    · dsimp only; rw [if_neg hne]
      obtain ⟨a1, a2, a3⟩ := hI j b' e
      exact ⟨a1.kept a3 (fun k _ h2 => hb.block k (by omega)) hs (hb.block _ (by omega)) (by omega), a2, by omega⟩
  · dsimp only
    rcases up_some e1 with ⟨rfl, rfl⟩ | ⟨hne, e3⟩ <;> rcases up_some e2 with ⟨rfl, rfl⟩ | ⟨hne2, e4⟩
    · exact absurd rfl hjl
    · rw [if_pos rfl, if_neg hne2]
      have := (hI _ _ e4).2.2
      exact .inr this
    · rw [if_neg hne, if_pos rfl]
      have := (hI _ _ e3).2.2
      exact .inl this
    · rw [if_neg hne, if_neg hne2]
      exact hd _ _ _ _ hjl e3 e4
def JW (w0 : World) (P M wd : Nat) (G : Int) : JT := fun y o1 o2 o5 o6 o7 o9 o8 => JC w0 P M wd G y (fo o1 o2 o5 o6 o7 o9 o8)
theorem jw_ok (w0 : World) (P M wd : Nat) (G wi : Int) (hok : OkC P M G) (hwd : (wd : Int) = wi) (hwi : wi = 2 * ((P : Int) + 2) + 1 + (M : Int) + G) (T : DbTab w0) : JOk (JW w0 P M wd G) w0.heap.size P M G wi := by
  have U := T.lt
  obtain ⟨h1, h2, h3, h4, h5, h6⟩ := hok
  constructor
  · intro y o1 o2 o5 o6 o7 o9 o8 h
    exact h.sn
  · intro y o5 o8 h
    refine (new_ex wi wd (by omega) y).mono ?_
    rintro e y' ⟨b, g, he, hm, l1, l2, hb⟩
    refine ⟨_, he, b, rfl, ?_⟩
    have := JC.step h U (i := 0) (b := b) rfl hb ⟨g, ⟨l1, hm.sb, l2, hm.sg⟩, hm⟩
    rw [fo_0] at this
    exact this
  · intro y b1 o5 o8 h
    refine (new_ex wi wd (by omega) y).mono ?_
    rintro e y' ⟨b, g, he, hm, l1, l2, hb⟩
    refine ⟨_, he, b, rfl, ?_⟩
    have := JC.step h U (i := 1) (b := b) rfl hb ⟨g, ⟨l1, hm.sb, l2, hm.sg⟩, hm⟩
    rw [fo_1] at this
    exact this
  · intro y b1 b2 o5 o8 h
    refine (qnew P P (by omega) y).mono ?_
    rintro e y' ⟨q, p, r, he, hq, l1, l2, l3, hb⟩
    refine ⟨_, he, q, rfl, ?_⟩
    have := JC.step h U (i := 3) (b := q) rfl hb ⟨p, r, ⟨l1, hq.lt, l2, hq.hb.lt⟩, fun k hk => ⟨l3 k hk, hq.hb.rlt k hk⟩, hq⟩
    rw [fo_3] at this
    exact this
  · intro y b1 b2 q o5 o8 h
    refine (snew_g P (by omega) (by omega) y).mono ?_
    rintro e y' ⟨s, he, hb⟩
    refine ⟨_, he, s, rfl, ?_⟩
    have := JC.step h U (i := 4) (b := s) rfl hb trivial
    rw [fo_4] at this
    exact this
  · intro y b1 b2 q sb o5 o8 h
    refine (inew_any P M P M (by omega) (by omega) y (T.at h.bl)).mono ?_
    rintro e y' ⟨x, he, hi, hb⟩
    refine ⟨_, he, x, rfl, ?_⟩
    have hs := hb.size
    have hs0 := h.bl.size
    have := JC.step h U (i := 5) (b := x) rfl hb (show Ids _ _ _ _ _ _ _ _ _ from hi.rez (fun _ _ _ => rfl) rfl (fun k a1 a2 => by omega) (fun k a1 => by omega) (.inl (by omega)))
    rw [fo_5] at this
    exact this
  · intro y o1 o2 o6 o7 o9 o8 h
    have := JC.step h U (i := 2) (b := y.heap.size) rfl (bla y (.cells (madeCells #[.int .i64 0] P) 3)) ⟨⟨Nat.le_refl _, by simp⟩, heap_alloc_new _ _⟩
    rw [fo_2] at this
    exact this
  · intro y o1 o2 o5 o6 o7 o9 h
    have := JC.step h U (i := 6) (b := y.heap.size) rfl (bla y (.cells (madeCells mz (M * 20)) 101)) ⟨⟨Nat.le_refl _, by simp⟩, heap_alloc_new _ _⟩
    rw [fo_6] at this
    exact this
theorem jw_0 (w0 y : World) (P M wd : Nat) (G : Int) (hb : Below w0.heap.size w0 y) (hs : SG w0.heap.size P M G y) : JW w0 P M wd G y none none none none none none none :=
  ⟨hb, hs, fun _ => (0, 0), fun i b e => (by rw [fo_no] at e; cases e), fun i j bi bj _ e => (by rw [fo_no] at e; cases e)⟩
/-- The parts of a new world, all there. -/
structure Ja (w0 : World) (P M wd : Nat) (y : World) (b1 g1 b2 g2 tb q p : Nat) (r : Option Nat) (ib mb lo hi : Nat) : Prop where
  bl : Below w0.heap.size w0 y
  m1 : Mem y b1 g1 (List.replicate wd 0) 0
  m2 : Mem y b2 g2 (List.replicate wd 0) 0
  qu : Qu y q p P r []
  id : Ids (fun k => k < lo ∨ (hi ≤ k ∧ k < y.heap.size)) ib P (fun _ => false) [] M [] (-1) y
  ma : y.heap[mb]? = some (.cells (madeCells mz (M * 20)) 101 (0, 0))
  ge : w0.heap.size ≤ b1 ∧ w0.heap.size ≤ g1 ∧ w0.heap.size ≤ b2 ∧ w0.heap.size ≤ g2 ∧ w0.heap.size ≤ q ∧ w0.heap.size ≤ p ∧ w0.heap.size ≤ mb ∧ w0.heap.size ≤ lo
  gr : ∀ k, r = some k → w0.heap.size ≤ k
  hh : hi ≤ y.heap.size
  a1 : b1 ≠ b2 ∧ b1 ≠ g2 ∧ g1 ≠ b2 ∧ g1 ≠ g2
  a2 : b1 ≠ q ∧ b1 ≠ p ∧ r ≠ some b1 ∧ g1 ≠ q ∧ g1 ≠ p ∧ r ≠ some g1 ∧ b2 ≠ q ∧ b2 ≠ p ∧ r ≠ some b2 ∧ g2 ≠ q ∧ g2 ≠ p ∧ r ≠ some g2
  a3 : b1 ≠ mb ∧ g1 ≠ mb ∧ b2 ≠ mb ∧ g2 ≠ mb ∧ q ≠ mb ∧ p ≠ mb ∧ r ≠ some mb
  a4 : ¬ (lo ≤ b1 ∧ b1 < hi) ∧ ¬ (lo ≤ g1 ∧ g1 < hi) ∧ ¬ (lo ≤ b2 ∧ b2 < hi) ∧ ¬ (lo ≤ g2 ∧ g2 < hi) ∧ ¬ (lo ≤ q ∧ q < hi) ∧ ¬ (lo ≤ p ∧ p < hi) ∧ ¬ (lo ≤ mb ∧ mb < hi)
  a5 : ∀ k, r = some k → ¬ (lo ≤ k ∧ k < hi)
  tu : y.heap[tb]? = some (.cells (madeCells #[.int .i64 0] P) 3 (0, 0))
  a6 : (b1 ≠ tb ∧ g1 ≠ tb ∧ b2 ≠ tb ∧ g2 ≠ tb) ∧ (q ≠ tb ∧ p ≠ tb ∧ r ≠ some tb ∧ mb ≠ tb) ∧ ¬ (lo ≤ tb ∧ tb < hi) ∧ w0.heap.size ≤ tb
theorem jw_all {w0 y : World} {P M wd : Nat} {G : Int} {b1 b2 tb q sb ib mb : Nat} (h : JW w0 P M wd G y (some b1) (some b2) (some tb) (some q) (some sb) (some ib) (some mb)) :
    ∃ g1 g2 p r lo hi, Ja w0 P M wd y b1 g1 b2 g2 tb q p r ib mb lo hi := by
  obtain ⟨hb, hs, I, hI, hd⟩ := h
  obtain ⟨⟨g1, l1, m1⟩, c1, d1⟩ := hI 0 b1 rfl
  obtain ⟨⟨g2, l2, m2⟩, c2, d2⟩ := hI 1 b2 rfl
  obtain ⟨⟨p, r, l3, l4, qu⟩, c3, d3⟩ := hI 3 q rfl
  obtain ⟨⟨l7, tu⟩, c7, d7⟩ := hI 2 tb rfl
  obtain ⟨id, c5, d5⟩ := hI 5 ib rfl
  obtain ⟨⟨l6, ma⟩, c6, d6⟩ := hI 6 mb rfl
  have e01 := hd 0 1 _ _ (by decide) rfl rfl
  have e03 := hd 0 3 _ _ (by decide) rfl rfl
  have e05 := hd 0 5 _ _ (by decide) rfl rfl
  have e06 := hd 0 6 _ _ (by decide) rfl rfl
  have e13 := hd 1 3 _ _ (by decide) rfl rfl
  have e15 := hd 1 5 _ _ (by decide) rfl rfl
  have e16 := hd 1 6 _ _ (by decide) rfl rfl
  have e35 := hd 3 5 _ _ (by decide) rfl rfl
  have e36 := hd 3 6 _ _ (by decide) rfl rfl
  have e56 := hd 5 6 _ _ (by decide) rfl rfl
  have e02 := hd 0 2 _ _ (by decide) rfl rfl
  have e12 := hd 1 2 _ _ (by decide) rfl rfl
  have e32 := hd 3 2 _ _ (by decide) rfl rfl
  have e25 := hd 2 5 _ _ (by decide) rfl rfl
  have e62 := hd 6 2 _ _ (by decide) rfl rfl
  have ap : ∀ {a b c d x y : Nat}, b ≤ c ∨ d ≤ a → a ≤ x ∧ x < b → c ≤ y ∧ y < d → x ≠ y := fun h1 h2 h3 => by omega
  have ao : ∀ {a b c d x : Nat}, b ≤ c ∨ d ≤ a → a ≤ x ∧ x < b → ¬ (c ≤ x ∧ x < d) := fun h1 h2 => by omega
  have k1 := And.intro l1.1 l1.2.1
  have k2 := l1.2.2
  have k3 := And.intro l2.1 l2.2.1
  have k4 := l2.2.2
  have k5 := And.intro l3.1 l3.2.1
  have k6 := l3.2.2
  refine ⟨g1, g2, p, r, (I 5).1, (I 5).2, hb, m1, m2, qu, id, ma, ?_, fun k hk => by have := (l4 k hk).1; omega, d5, ⟨ap e01 k1 k3, ap e01 k1 k4, ap e01 k2 k3, ap e01 k2 k4⟩,
    ⟨ap e03 k1 k5, ap e03 k1 k6, fun e => ap e03 k1 (l4 _ e) rfl, ap e03 k2 k5, ap e03 k2 k6, fun e => ap e03 k2 (l4 _ e) rfl, ap e13 k3 k5, ap e13 k3 k6, fun e => ap e13 k3 (l4 _ e) rfl, ap e13 k4 k5, ap e13 k4 k6, fun e => ap e13 k4 (l4 _ e) rfl⟩,
    ⟨ap e06 k1 l6, ap e06 k2 l6, ap e16 k3 l6, ap e16 k4 l6, ap e36 k5 l6, ap e36 k6 l6, fun e => ap e36 (l4 _ e) l6 rfl⟩,
    ⟨ao e05 k1, ao e05 k2, ao e15 k3, ao e15 k4, ao e35 k5, ao e35 k6, ao e56.symm l6⟩, fun k hk => ao e35 (l4 k hk), tu,
    ⟨⟨ap e02 k1 l7, ap e02 k2 l7, ap e12 k3 l7, ap e12 k4 l7⟩, ⟨ap e32 k5 l7, ap e32 k6 l7, fun e => ap e32 (l4 _ e) l7 rfl, ap e62 l6 l7⟩, ao e25 l7, by omega⟩⟩
  exact ⟨by omega, by omega, by omega, by omega, by omega, by omega, by omega, c5⟩
end Go.Proofs.YtfpkgkjmpcoppaaGreatDoor
/-! world.begin of any config: what stands between its deeds. -/
namespace Go.Proofs.YtfpkgkjmpcoppaaGreatDoor
open Go.RowKit
set_option linter.unusedVariables false
set_option linter.unusedSimpArgs false
set_option maxRecDepth 20000
/-- Only what is S, and what is new, may differ. -/
structure OnS (S : Nat → Prop) (w w' : World) : Prop where
  os : w'.os = w.os
  tape : w'.tape = w.tape
  output : w'.output = w.output
  size : w.heap.size ≤ w'.heap.size
  block : ∀ k, k < w.heap.size → ¬ S k → w'.heap[k]? = w.heap[k]?
theorem OnS.refl (S : Nat → Prop) (w : World) : OnS S w w := ⟨rfl, rfl, rfl, Nat.le_refl _, fun _ _ _ => rfl⟩
theorem OnS.trans {S S' : Nat → Prop} {a b c : World} (h : OnS S a b) (k : OnS S' b c) (hS : ∀ i, i < a.heap.size → S' i → S i) : OnS S a c :=
  ⟨k.os.trans h.os, k.tape.trans h.tape, k.output.trans h.output, Nat.le_trans h.size k.size, fun i hi hn => (k.block i (Nat.lt_of_lt_of_le hi h.size) (fun e => hn (hS i hi e))).trans (h.block i hi hn)⟩
theorem OnS.mono {S S' : Nat → Prop} {a b : World} (h : OnS S a b) (hS : ∀ i, S i → S' i) : OnS S' a b := ⟨h.os, h.tape, h.output, h.size, fun i hi hn => h.block i hi (fun e => hn (hS i e))⟩
theorem OnS.of_below {w w' : World} (hb : Below w.heap.size w w') : OnS (fun _ => False) w w' := ⟨hb.os, hb.tape, hb.output, hb.size, fun k hk _ => hb.block k hk⟩
theorem OnS.below {S : Nat → Prop} {w w' : World} {B : Nat} (h : OnS S w w') (hB : B ≤ w.heap.size) (hS : ∀ k, S k → B ≤ k) : Below B w w' := ⟨h.os, h.tape, h.output, h.size, fun k hk => h.block k (by omega) (fun e => by have := hS k e; omega)⟩
theorem own_kept {w w' : World} {base n size : Nat} {e : TypeId} {v : Value} {xs : List Value} (h : w.ownsRow base e size v n xs) (hk : ∀ q, v.ownBlock = some q → w'.heap[q]? = w.heap[q]?) : w'.ownsRow base e size v n xs := by
  obtain ⟨h0, h1 | ⟨q, cap, cur, h1, h2, h3, h4⟩⟩ := h
  · exact ⟨h0, .inl h1⟩
  · exact ⟨h0, .inr ⟨q, cap, cur, h1, h2, (hk q (by rw [h1]; rfl)).trans h3, h4⟩⟩
/-- Cells stored in a row. -/
theorem wg_setCells {b : Nat} {t : TypeId} : ∀ (vs : List Value) (o : Nat) (w : World) (cs : Array Value), w.heap[b]? = some (.cells cs t (0, 0)) → o + vs.length ≤ cs.size →
    ∃ cs', (w.setCells b o vs).heap[b]? = some (.cells cs' t (0, 0)) ∧ cs'.size = cs.size ∧ (∀ j, j < vs.length → cs'[o + j]? = vs[j]?) ∧ (∀ j, j < o ∨ o + vs.length ≤ j → cs'[j]? = cs[j]?) ∧ OnS (fun k => k = b) w (w.setCells b o vs)
  | [], o, w, cs, h, _ => ⟨cs, h, rfl, fun j hj => by simp at hj, fun j _ => rfl, OnS.refl _ _⟩
  | v :: r, o, w, cs, h, hl => by
    simp only [List.length_cons] at hl
    have h1 : (w.setCell ⟨b, o, none⟩ v).heap[b]? = some (.cells (cs.setIfInBounds o v) t (0, 0)) := blk_set v h rfl
    obtain ⟨cs', a1, a2, a3, a4, a5⟩ := wg_setCells r (o + 1) (w.setCell ⟨b, o, none⟩ v) (cs.setIfInBounds o v) h1 (by simp; omega)
    refine ⟨cs', a1, by simpa using a2, fun j hj => ?_, fun j hj => ?_, OnS.trans (S := fun k => k = b) (b := w.setCell ⟨b, o, none⟩ v) ⟨rfl, rfl, rfl, by simp [World.setCell], fun k _ hk => Below.heap_setCell _ _ _ _ hk⟩ a5 (fun _ _ e => e)⟩
    · rcases j with _ | j
      · rw [a4 (o + 0) (by omega)]
        simp [Array.getElem?_setIfInBounds]
        omega
      · have := a3 j (by simpa using hj)
        rw [show o + (j + 1) = o + 1 + j by omega, this]; rfl
    · simp only [List.length_cons] at hj
      rw [a4 j (by omega), Array.getElem?_setIfInBounds_ne (by omega)]
@[reducible] def wcR (P M : Nat) (G sp nt fr : Int) (b1 b2 : Nat) (rv : Value) (tb q sb ib mb : Nat) (lv : Value) : Array Value := #[.int .i64 (P : Int), .int .i64 (M : Int), .int .i64 G, .pointer (some ⟨b1, 0, none⟩), .pointer (some ⟨b2, 0, none⟩), .int .i64 sp, .int .i64 nt, .int .i64 fr, .int .i64 G, rv, .slice (some ⟨tb, 0, none⟩) P P, .pointer (some ⟨q, 0, none⟩), .pointer (some ⟨sb, 0, none⟩), .pointer (some ⟨ib, 0, none⟩), .slice (some ⟨mb, 0, none⟩) M M, lv]
/-- Who is idle at first: processors from 1 up to i. -/
def idf (i : Nat) : Nat → Bool := fun j => decide (0 < j) && decide (j < i)
theorem idf_0 : idf 0 = fun _ => false := by funext j; simp [idf]
theorem idf_1 : idf 1 = fun _ => false := by funext j; simp [idf]; omega
theorem idf_s {i : Nat} (h : 0 < i) : upd (idf i) i true = idf (i + 1) := by
  funext j
  simp only [upd, idf]
  by_cases hj : j = i
  · subst hj; simp [h]
  · simp only [hj, if_false]
    congr 1
    rw [decide_eq_decide]; omega
def ssOf (i : Nat) : List Int := (List.range (i - 2)).map fun j => ((j + 2 : Nat) : Int)
def plOf (i : Nat) : Int := if i ≤ 1 then -1 else 1
theorem ssOf_len (i : Nat) : (ssOf i).length = i - 2 := by simp [ssOf]
theorem ssOf_no (i : Nat) : hasB (i : Int) (ssOf i) = false := by
  simp only [hasB, decide_eq_false_iff_not, ssOf, List.mem_map, List.mem_range, not_exists, not_and]
  intro j hj e; omega
theorem ssOf_s {i : Nat} (h : 2 ≤ i) : ssOf (i + 1) = ssOf i ++ [(i : Int)] := by
  unfold ssOf
  rw [show i + 1 - 2 = (i - 2) + 1 by omega, List.range_succ, List.map_append]
  simp; omega
section
variable {y1 wr w2 : World} {W lo hi P M : Nat} {G sp nt fr : Int} {b1 b2 tb q sb ib mb : Nat} {rv lv : Value} {gs : List Nat} {n i : Nat}
/-- Behind i rounds of the first loop: n rings, i processors. -/
def pg (g : Nat) : Value := .pointer (some ⟨g, 0, none⟩)
/-- The rings. -/
structure Rgs (lo : Nat) (rv : Value) (gs : List Nat) (w : World) : Prop where
  rg : ∀ g ∈ gs, Rg w g [] 0 false 0 ∧ lo ≤ g ∧ rv.ownBlock ≠ some g
  nd : gs.Nodup
theorem Rgs.kept {lo : Nat} {rv : Value} {gs : List Nat} {w w' : World} (h : Rgs lo rv gs w) (hk : ∀ g ∈ gs, w'.heap[g]? = w.heap[g]?) : Rgs lo rv gs w' := ⟨fun g hg => ⟨(h.rg g hg).1.kept (hk g hg), (h.rg g hg).2⟩, h.nd⟩
theorem Rgs.lt {lo : Nat} {rv : Value} {gs : List Nat} {w : World} (h : Rgs lo rv gs w) {g : Nat} (hg : g ∈ gs) : lo ≤ g ∧ g < w.heap.size := ⟨(h.rg g hg).2.1, (h.rg g hg).1.lt⟩
structure L1 (y1 : World) (W lo hi P M : Nat) (G sp nt fr : Int) (b1 b2 tb q sb ib mb : Nat) (rv : Value) (gs zs : List Nat) (n i : Nat) (wr : World) : Prop where
  hW : wr.heap[W]? = some (.cells (wcR P M G sp nt fr b1 b2 rv tb q sb ib mb (.slice none 0 0)) 95 (0, 0))
  own : wr.ownsRow y1.heap.size 107 1 rv n (gs.map pg)
  rgs : Rgs y1.heap.size rv gs wr
  id : ∃ Z : Nat → Prop, Ids Z ib P (idf i) [] M [] (-1) wr ∧ (∀ k, k < y1.heap.size → ¬ (lo ≤ k ∧ k < hi) → Z k) ∧ (∀ k, rv.ownBlock = some k ∨ k ∈ zs → Z k)
  fr : OnS (fun k => k = W ∨ (lo ≤ k ∧ k < hi)) y1 wr
  lt : W < y1.heap.size ∧ hi ≤ W ∧ 7 < lo ∧ 7 < W
theorem L1.below {zs : List Nat} (h : L1 y1 W lo hi P M G sp nt fr b1 b2 tb q sb ib mb rv gs zs n i wr) {y : World} (hb : Below wr.heap.size wr y) : L1 y1 W lo hi P M G sp nt fr b1 b2 tb q sb ib mb rv gs zs n i y := by
  have ho := h.own
  obtain ⟨Z, hz, z1, z2⟩ := h.id
  exact ⟨(hb.block _ (blk_lt h.hW)).trans h.hW, own_kept ho (fun k hk => hb.block k (ho.lt k hk).2), h.rgs.kept (fun g hg => hb.block g (h.rgs.lt hg).2), ⟨Z, hz.below hb, z1, z2⟩, h.fr.trans (OnS.of_below hb) (fun _ _ e => e.elim), h.lt⟩
/-- What is known behind ring.New. -/
def RyG (y1 : World) (W lo hi P M : Nat) (G sp nt fr : Int) (b1 b2 tb q sb ib mb : Nat) (rv : Value) (gs : List Nat) (n i rg : Nat) (y : World) : Prop :=
  L1 y1 W lo hi P M G sp nt fr b1 b2 tb q sb ib mb rv gs (rg :: gs) n i y ∧ y.cell? ⟨W, 9, none⟩ = some rv ∧ y.frozen? ⟨W, 9, none⟩ = false ∧ (y.alloc (.cells #[.pointer (some ⟨rg, 0, none⟩)] 107)).heap[y.heap.size]? = some (.cells #[.pointer (some ⟨rg, 0, none⟩)] 107 (0, 0)) ∧ (Rg y rg [] 0 false 0 ∧ y1.heap.size ≤ rg ∧ rv.ownBlock ≠ some rg ∧ rg ∉ gs)
theorem ryg_0 (h : L1 y1 W lo hi P M G sp nt fr b1 b2 tb q sb ib mb rv gs gs n i wr) :
    Calls Tryz.prog 72 #[] wr.drew fun e y => ∃ v, e = .returned v ∧ ∃ rg, v = .pointer (some ⟨rg, 0, none⟩) ∧ Hid (RyG y1 W lo hi P M G sp nt fr b1 b2 tb q sb ib mb rv gs n i rg y) := by
  refine (new_r _).mono ?_
  rintro e y ⟨rg, rfl, hr, hk, hb⟩
  have hb : Below wr.heap.size wr y := ⟨hb.os, hb.tape, hb.output, hb.size, hb.block⟩
  have hs1 := h.fr.size
  have hs2 := hb.size
  have hrl := hr.lt
  have hk : wr.heap.size ≤ rg := hk
  have h2 : L1 y1 W lo hi P M G sp nt fr b1 b2 tb q sb ib mb rv gs (rg :: gs) n i y := by
    have h3 := h.below hb
    obtain ⟨Z, hz, z1, z2⟩ := h.id
    refine ⟨h3.hW, h3.own, h3.rgs, ⟨fun k => Z k ∨ (wr.heap.size ≤ k ∧ k < y.heap.size), hz.rez (fun k _ h2 => hb.block k h2) (hb.block _ (hz.zl _ hz.hz)) (fun k h1 h2 e => ?_) (fun k e => ?_) (.inl hz.hz), fun k a b => .inl (z1 k a b), fun k e => ?_⟩, h3.fr, h3.lt⟩
    · rcases e with e | e
      · exact h1 e
      · omega
    · rcases e with e | e
      · have := hz.zl k e; omega
      · exact e.2
    · rcases e with e | e
      · exact .inl (z2 k (.inl e))
      · rcases List.mem_cons.1 e with e | e
        · exact .inr ⟨by omega, by omega⟩
        · exact .inl (z2 k (.inr e))
  exact ⟨_, rfl, rg, rfl, hid ⟨h2, blk_cell h2.hW rfl, blk_free h2.hW, heap_alloc_new _ _, hr, by omega, fun e => by have := (h.own.lt rg e).2; omega, fun e => by have := (h.rgs.lt e).2; omega⟩⟩
theorem ryg_2 {y w4 : World} {rg gg cap : Nat} (h : L1 y1 W lo hi P M G sp nt fr b1 b2 tb q sb ib mb rv gs (rg :: gs) n i y)
    (hr : Rg y rg [] 0 false 0 ∧ y1.heap.size ≤ rg ∧ rv.ownBlock ≠ some rg ∧ rg ∉ gs) (hown : w4.ownsRow y1.heap.size 107 1 (.slice (some ⟨gg, 0, none⟩) (n + 1) cap) (n + 1) (gs.map pg ++ [.pointer (some ⟨rg, 0, none⟩)])) (hgrow : (y.alloc (.cells #[.pointer (some ⟨rg, 0, none⟩)] 107)).grownBy w4 rv.ownBlock) (hat : rv.ownBlock = some gg ∨ gg = y.heap.size + 1) :
    w4.cell? ⟨W, 9, none⟩ = some rv ∧ w4.frozen? ⟨W, 9, none⟩ = false ∧ L1 y1 W lo hi P M G sp nt fr b1 b2 tb q sb ib mb (.slice (some ⟨gg, 0, none⟩) (n + 1) cap) (gs ++ [rg]) (gs ++ [rg]) (n + 1) i (w4.setCell ⟨W, 9, none⟩ (.slice (some ⟨gg, 0, none⟩) (n + 1) cap)) := by
  have ho := h.own
  obtain ⟨hr1, hr2, hr3, hr4⟩ := hr
  have hrl := hr1.lt
  obtain ⟨Z, hz, z1, z2⟩ := h.id
  obtain ⟨l1, l2, l3, lT⟩ := h.lt
  have hs1 := h.fr.size
  have hge : ∀ k, rv.ownBlock = some k → y1.heap.size ≤ k ∧ k < y.heap.size := fun k hk => ho.lt k hk
  have hs4 := hgrow.size
  simp only [World.size_alloc] at hs4
  have e : ∀ k, k < y.heap.size → rv.ownBlock ≠ some k → w4.heap[k]? = y.heap[k]? := fun k hk hv => by
    rw [hgrow.block k (by simp; omega) (fun e => hv e.symm), Below.heap_alloc _ _ _ hk]
  have eW : rv.ownBlock ≠ some W := fun e => by have := hge W e; omega
  have hW4 := (e W (by omega) eW).trans h.hW
  have hgg := (hown.lt gg rfl)
  have ss : (w4.setCell ⟨W, 9, none⟩ (.slice (some ⟨gg, 0, none⟩) (n + 1) cap)).heap.size = w4.heap.size := by simp [World.setCell]
  have st : ∀ k, k ≠ W → (w4.setCell ⟨W, 9, none⟩ (.slice (some ⟨gg, 0, none⟩) (n + 1) cap)).heap[k]? = w4.heap[k]? := fun k hk => Below.heap_setCell _ _ _ _ hk
  have zW : Z W := z1 W l1 (by omega)
  have zT : Z 7 := z1 _ (by omega) (by omega)
  refine ⟨blk_cell hW4 rfl, blk_free hW4, ⟨blk_set _ hW4 rfl, by rw [List.map_append]; exact ownsRow_setCell_other hown (a := ⟨W, 9, none⟩) (by simp [Value.ownBlock]; omega) _, ⟨fun g hg => ?_, ?_⟩, ⟨fun k => Z k ∨ (y.heap.size ≤ k ∧ k < w4.heap.size), ?_, fun k hk hn => .inl (z1 k hk hn), fun k hk => ?_⟩, ?_, h.lt⟩⟩
  · have key : ∀ g', Rg y g' [] 0 false 0 → y1.heap.size ≤ g' → rv.ownBlock ≠ some g' → Rg (w4.setCell ⟨W, 9, none⟩ (.slice (some ⟨gg, 0, none⟩) (n + 1) cap)) g' [] 0 false 0 ∧ y1.heap.size ≤ g' ∧ (Value.slice (some ⟨gg, 0, none⟩) (n + 1) cap).ownBlock ≠ some g' := fun g' k1 k2 k3 => by
      have kl := k1.lt
      refine ⟨k1.kept ((st g' (by omega)).trans (e g' kl k3)), k2, fun e' => ?_⟩
      simp only [Value.ownBlock, Option.some.injEq] at e'
      subst e'
      rcases hat with h | h
      · exact k3 h
      · omega
    rcases List.mem_append.1 hg with hg | hg
    · obtain ⟨k1, k2, k3⟩ := h.rgs.rg g hg
      exact key g k1 k2 k3
    · rw [List.mem_singleton] at hg
      subst hg
      exact key g hr1 hr2 hr3
  · rw [List.nodup_append]
    exact ⟨h.rgs.nd, by simp, fun a ha b hb => by rw [List.mem_singleton] at hb; subst hb; exact fun e => hr4 (e ▸ ha)⟩
  · refine hz.rez (fun k hk1 hk2 => ?_) ?_ (fun k hk1 hk2 e => ?_) (fun k hk => ?_) (.inl zT)
    · exact (st k (fun e => hk1 (e ▸ zW))).trans (e k hk2 (fun e => hk1 (z2 k (.inl e))))
    · exact (st _ (by omega)).trans (e _ (by omega) (fun e => by have := hge _ e; omega))
    · rcases e with e | e
      · exact hk1 e
      · omega
    · rw [ss]
      rcases hk with hk | hk
      · have := hz.zl k hk; omega
      · omega
  · rcases hk with hk | hk
    · simp only [Value.ownBlock, Option.some.injEq] at hk
      subst hk
      rcases hat with h | h
      · exact .inl (z2 _ (.inl h))
      · exact .inr ⟨by omega, hgg.2⟩
    · rcases List.mem_append.1 hk with hk | hk
      · exact .inl (z2 k (.inr (List.mem_cons_of_mem _ hk)))
      · rw [List.mem_singleton] at hk
        exact .inl (z2 k (.inr (by rw [hk]; exact List.mem_cons_self)))
  · exact ⟨hgrow.os.trans h.fr.os, hgrow.tape.trans h.fr.tape, hgrow.output.trans h.fr.output, by rw [ss]; omega, fun k hk hn => (st k (fun e => hn (.inl e))).trans ((e k (by omega) (fun e => by have := hge k e; omega)).trans (h.fr.block k hk hn))⟩
theorem l1_put0 (h : L1 y1 W lo hi P M G sp nt fr b1 b2 tb q sb ib mb rv gs gs n 0 wr) : L1 y1 W lo hi P M G sp nt fr b1 b2 tb q sb ib mb rv gs gs n 1 wr := by
  obtain ⟨Z, hz, z⟩ := h.id
  exact ⟨h.hW, h.own, h.rgs, ⟨Z, by rw [idf_1, ← idf_0]; exact hz, z⟩, h.fr, h.lt⟩
theorem l1_put (h : L1 y1 W lo hi P M G sp nt fr b1 b2 tb q sb ib mb rv gs gs n i wr) (h0 : 0 < i) (h1 : i < P) :
    Calls Tryz.prog 73 #[.pointer (some ⟨ib, 0, none⟩), .int .i64 i] wr fun e w' => e = .returned (.bool true) ∧ L1 y1 W lo hi P M G sp nt fr b1 b2 tb q sb ib mb rv gs gs n (i + 1) w' := by
  have ho := h.own
  obtain ⟨Z, hz, z1, z2⟩ := h.id
  obtain ⟨l1, l2, l3, lT⟩ := h.lt
  refine (putP_yes hz i (hasB_nil _) (by simp) h1 (by simp [idf])).mono ?_
  rintro e w' ⟨rfl, h2, f2⟩
  rw [idf_s h0] at h2
  exact ⟨rfl, (f2.block W (z1 W l1 (by omega))).trans h.hW, own_kept ho (fun k hk => f2.block k (z2 k (.inl hk))), h.rgs.kept (fun g hg => f2.block g (z2 g (.inr hg))), ⟨Z, h2, z1, z2⟩, h.fr.trans (S' := fun k => ¬ Z k) ⟨f2.os, f2.tape, f2.output, f2.size, fun k _ hn => f2.block k (Classical.not_not.1 hn)⟩ (fun k hk hn => .inr (Classical.not_not.1 (fun hh => hn (z1 k hk hh)))), h.lt⟩
/-- In the second loop: m machines are made, i have stopped. -/
structure L2 (y1 : World) (W lo hi P M : Nat) (G sp nt fr : Int) (b1 b2 tb q sb ib mb : Nat) (rv : Value) (gs : List Nat) (m i : Nat) (c0 : Array Value) (wr : World) : Prop where
  hW : wr.heap[W]? = some (.cells (wcR P M G sp nt fr b1 b2 rv tb q sb ib mb (.slice none 0 0)) 95 (0, 0))
  own : wr.ownsRow y1.heap.size 107 1 rv P (gs.map pg)
  rgs : Rgs y1.heap.size rv gs wr
  id : ∃ Z : Nat → Prop, Ids Z ib P (idf P) [] M (ssOf i) (plOf i) wr ∧ (∀ k, k < y1.heap.size → ¬ (lo ≤ k ∧ k < hi) → Z k) ∧ (∀ k, rv.ownBlock = some k ∨ k ∈ gs → Z k)
  fr : OnS (fun k => k = W ∨ k = mb ∨ (lo ≤ k ∧ k < hi)) y1 wr
  lt : W < y1.heap.size ∧ hi ≤ W ∧ 7 < lo ∧ mb < W ∧ ¬ (lo ≤ mb ∧ mb < hi) ∧ 7 ≠ mb ∧ 7 < W
  mc : ∃ cs, wr.heap[mb]? = some (.cells cs 101 (0, 0)) ∧ cs.size = M * 20 ∧ (∀ i, i < m → ∀ j, j < 20 → cs[i * 20 + j]? = (if i = 0 then c0 else mf 16 (-1))[j]?)
theorem l2_start (h : L1 y1 W lo hi P M G sp nt fr b1 b2 tb q sb ib mb rv gs gs P P wr) (hm : y1.heap[mb]? = some (.cells (madeCells mz (M * 20)) 101 (0, 0))) (l4 : mb < W) (l5 : ¬ (lo ≤ mb ∧ mb < hi)) (l6 : 7 ≠ mb) (c0 : Array Value) :
    L2 y1 W lo hi P M G sp nt fr b1 b2 tb q sb ib mb rv gs 0 0 c0 wr :=
  ⟨h.hW, h.own, h.rgs, h.id, h.fr.mono (fun k e => e.elim .inl (fun e => .inr (.inr e))), ⟨h.lt.1, h.lt.2.1, h.lt.2.2.1, l4, l5, l6, h.lt.2.2.2⟩, _, (h.fr.block mb (blk_lt hm) (by omega)).trans hm, size_madeCells _ _, fun i e => absurd e (by omega)⟩
theorem L2.below {m : Nat} {c0 : Array Value} (h : L2 y1 W lo hi P M G sp nt fr b1 b2 tb q sb ib mb rv gs m i c0 wr) {y : World} (hb : Below wr.heap.size wr y) : L2 y1 W lo hi P M G sp nt fr b1 b2 tb q sb ib mb rv gs m i c0 y := by
  have ho := h.own
  obtain ⟨Z, hz, z1, z2⟩ := h.id
  obtain ⟨cs, c1, c2⟩ := h.mc
  exact ⟨(hb.block _ (blk_lt h.hW)).trans h.hW, own_kept ho (fun k hk => hb.block k (ho.lt k hk).2), h.rgs.kept (fun g hg => hb.block g (h.rgs.lt hg).2), ⟨Z, hz.below hb, z1, z2⟩, h.fr.trans (OnS.of_below hb) (fun _ _ e => e.elim), h.lt, cs, (hb.block _ (blk_lt c1)).trans c1, c2⟩
/-- Machines are written, from a cell on. -/
theorem L2.turn {m m' : Nat} {c0 c0' cs' : Array Value} (h : L2 y1 W lo hi P M G sp nt fr b1 b2 tb q sb ib mb rv gs m i c0 wr) {y : World} (hy : OnS (fun k => k = mb) wr y) (hc : y.heap[mb]? = some (.cells cs' 101 (0, 0))) (hs : cs'.size = M * 20) (hj : ∀ i, i < m' → ∀ j, j < 20 → cs'[i * 20 + j]? = (if i = 0 then c0' else mf 16 (-1))[j]?) :
    L2 y1 W lo hi P M G sp nt fr b1 b2 tb q sb ib mb rv gs m' i c0' y := by
  have ho := h.own
  obtain ⟨Z, hz, z1, z2⟩ := h.id
  obtain ⟨l1, l2, l3, l4, l5, l6, lT⟩ := h.lt
  have hs1 := h.fr.size
  have zM : Z mb := z1 mb (by omega) l5
  have zT : Z 7 := z1 _ (by omega) (by omega)
  refine ⟨(hy.block W (blk_lt h.hW) (by omega)).trans h.hW, own_kept ho (fun k hk => hy.block k (ho.lt k hk).2 (fun e => by have := (ho.lt k hk).1; omega)), h.rgs.kept (fun g hg => hy.block g (h.rgs.lt hg).2 (fun e => by have := (h.rgs.lt hg).1; omega)), ⟨Z, ?_, z1, z2⟩, h.fr.trans hy (fun k _ e => .inr (.inl e)), h.lt, cs', hc, hs, hj⟩
  exact hz.rez (fun k h1 h2 => hy.block k h2 (fun e => h1 (e ▸ zM))) (hy.block _ (by omega) l6) (fun k h1 _ => h1) (fun k hk => Nat.lt_of_lt_of_le (hz.zl k hk) hy.size) zT
theorem l2_made {m : Nat} (h : L2 y1 W lo hi P M G sp nt fr b1 b2 tb q sb ib mb rv gs m i (mf 16 (-1)) wr) (hm : m < M) : wr.there mb (m * 20) 20 ∧ L2 y1 W lo hi P M G sp nt fr b1 b2 tb q sb ib mb rv gs (m + 1) i (mf 16 (-1)) (wr.setCells mb (m * 20) (mf 16 (-1)).toList) := by
  obtain ⟨cs, c1, c2, c3⟩ := h.mc
  have hl : (mf 16 (-1)).toList.length = 20 := rfl
  have hb : m * 20 + 20 ≤ M * 20 := by omega
  obtain ⟨cs', a1, a2, a3, a4, a5⟩ := wg_setCells (mf 16 (-1)).toList (m * 20) wr cs c1 (by rw [hl, c2]; omega)
  refine ⟨fun j hj => ⟨?_, blk_free c1⟩, h.turn a5 a1 (by omega) (fun i hi j hj => ?_)⟩
  · have : m * 20 + j < cs.size := by omega
    rw [blk_cell c1 (Array.getElem?_eq_getElem this)]; rfl
  · by_cases him : i = m
    · subst him
      rw [a3 j (by rw [hl]; exact hj), Array.getElem?_toList]
      split <;> rfl
    · rw [a4 (i * 20 + j) (.inl (by omega))]; exact c3 i (by omega) j hj
theorem l2_stop0 {m : Nat} {c0 : Array Value} (h : L2 y1 W lo hi P M G sp nt fr b1 b2 tb q sb ib mb rv gs m 0 c0 wr) : L2 y1 W lo hi P M G sp nt fr b1 b2 tb q sb ib mb rv gs m 1 c0 wr :=
  ⟨h.hW, h.own, h.rgs, h.id, h.fr, h.lt, h.mc⟩
theorem l2_stop {m : Nat} {c0 : Array Value} (h : L2 y1 W lo hi P M G sp nt fr b1 b2 tb q sb ib mb rv gs m i c0 wr) (h0 : 0 < i) (h1 : i < M) (hM : M ≤ 128) :
    Calls Tryz.prog 74 #[.pointer (some ⟨ib, 0, none⟩), .int .i64 i] wr fun e w' => (∃ b, e = .returned (.tuple #[.bool b, .bool true])) ∧ L2 y1 W lo hi P M G sp nt fr b1 b2 tb q sb ib mb rv gs m (i + 1) c0 w' := by
  have ho := h.own
  obtain ⟨Z, hz, z1, z2⟩ := h.id
  obtain ⟨l1, l2, l3, l4, l5, l6, lT⟩ := h.lt
  obtain ⟨cs, c1, c2⟩ := h.mc
  have key : ∀ w', Ids Z ib P (idf P) [] M (ssOf (i + 1)) (plOf (i + 1)) w' → Fr Z wr w' → L2 y1 W lo hi P M G sp nt fr b1 b2 tb q sb ib mb rv gs m (i + 1) c0 w' := fun w' h2 f2 =>
    ⟨(f2.block W (z1 W l1 (by omega))).trans h.hW, own_kept ho (fun k hk => f2.block k (z2 k (.inl hk))), h.rgs.kept (fun g hg => f2.block g (z2 g (.inr hg))), ⟨Z, h2, z1, z2⟩, h.fr.trans (S' := fun k => ¬ Z k) ⟨f2.os, f2.tape, f2.output, f2.size, fun k _ hn => f2.block k (Classical.not_not.1 hn)⟩ (fun k hk hn => .inr (.inr (Classical.not_not.1 (fun hh => hn (z1 k hk hh))))), h.lt, cs, (f2.block mb (z1 mb (by omega) l5)).trans c1, c2⟩
  by_cases h2 : i = 1
  · subst h2
    refine (iStop_first (show Ids Z ib P (idf P) [] M [] (-1) wr from hz) 1 (by omega) (by omega) (hasB_nil _) (by simp)).mono ?_
    rintro e w' ⟨rfl, h2, f2⟩
    exact ⟨⟨_, rfl⟩, key w' h2 f2⟩
  · have e1 : plOf i = 1 := if_neg (by omega)
    have e2 : plOf (i + 1) = 1 := if_neg (by omega)
    rw [e1] at hz
    refine (iStop_more hz i (by omega) (by omega) (by omega) (by omega) (ssOf_no i) (by rw [ssOf_len]; omega)).mono ?_
    rintro e w' ⟨rfl, h2, f2⟩
    exact ⟨⟨_, rfl⟩, key w' (by rw [ssOf_s (by omega), e2]; exact h2) f2⟩
theorem l2_put {cs : Array Value} (h : L2 y1 W lo hi P M G sp nt fr b1 b2 tb q sb ib mb rv gs M M (mf 16 (-1)) wr) (m1 : wr.heap[mb]? = some (.cells cs 101 (0, 0))) (m2 : cs.size = M * 20) (m3 : ∀ i, i < M → ∀ j, j < 20 → cs[i * 20 + j]? = (if i = 0 then mf 16 (-1) else mf 16 (-1))[j]?) :
    L2 y1 W lo hi P M G sp nt fr b1 b2 tb q sb ib mb rv gs M M (mf 1 0) ((wr.setCell ⟨mb, 0, none⟩ (.int .i64 1)).setCell ⟨mb, 1, none⟩ (.int .i64 0)).drew := by
  have hz : ∀ j, j < 20 → 0 < M → j < cs.size := fun j hj hM => by omega
  refine h.turn (cs' := (cs.setIfInBounds 0 (.int .i64 1)).setIfInBounds 1 (.int .i64 0)) ⟨rfl, rfl, rfl, by simp [World.setCell, World.drew], fun k _ hk => (Below.heap_setCell _ _ _ _ hk).trans (Below.heap_setCell _ _ _ _ hk)⟩ (blk_set _ (blk_set _ m1 rfl) rfl) (by simpa using m2) (fun i hM j hj => ?_)
  by_cases hi : i = 0
  · subst hi
    have m4 := fun j hj => m3 0 hM j hj
    simp only [if_true, Nat.zero_mul, Nat.zero_add] at m4 ⊢
    rcases j with _ | _ | j
    · rw [Array.getElem?_setIfInBounds_ne (by decide), Array.getElem?_setIfInBounds_self_of_lt (hz 0 hj hM)]; rfl
    · rw [Array.getElem?_setIfInBounds_self_of_lt (by simpa using hz 1 hj hM)]; rfl
    · rw [Array.getElem?_setIfInBounds_ne (by omega), Array.getElem?_setIfInBounds_ne (by omega), m4 (j + 1 + 1) hj]; rfl
  · have := m3 i hM j hj
    rw [if_neg hi] at this ⊢
    rw [Array.getElem?_setIfInBounds_ne (by omega), Array.getElem?_setIfInBounds_ne (by omega), this]
end
end Go.Proofs.YtfpkgkjmpcoppaaGreatDoor
/-! world.begin of any config: Put and see; a new world's contents. -/
namespace Go.Proofs.YtfpkgkjmpcoppaaGreatDoor
open Go.RowKit
set_option linter.unusedVariables false
set_option linter.unusedSimpArgs false
set_option maxRecDepth 20000
/-- A new world's contents. -/
structure Nf (P M : Nat) (G : Int) (W b1 g1 b2 g2 tb q p sb ib mb : Nat) (r : Option Nat) (rv lg : Value) (gs : List Nat) (base rbase wd N0 : Nat) (Z : Nat → Prop) (w' : World) : Prop where
  hW : w'.heap[W]? = some (.cells (wcR P M G (2 * ((P : Int) + 2)) (2 * ((P : Int) + 2) + 1) (2 * ((P : Int) + 2) + 1 + (M : Int)) b1 b2 rv tb q sb ib mb lg) 95 (0, 0))
  hwd : (wd : Int) = 2 * ((P : Int) + 2) + 1 + (M : Int) + G
  m1 : Mem w' b1 g1 ((List.replicate wd 0).set (2 * ((P : Int) + 2) + 1 + (M : Int) + 0).toNat 1) 1
  m2 : Mem w' b2 g2 ((List.replicate wd 0).set (2 * ((P : Int) + 2) + 1 + (M : Int) + 0).toNat 1) 1
  own : w'.ownsRow rbase 107 1 rv P (gs.map pg)
  rgs : Rgs rbase rv gs w'
  gl : gs.length = P
  rb : W < rbase
  tu : w'.heap[tb]? = some (.cells (madeCells #[.int .i64 0] P) 3 (0, 0))
  qu : Qu w' q p P r [0]
  id : Ids Z ib P (idf P) [] M (ssOf M) (plOf M) w'
  mc : ∃ cs, w'.heap[mb]? = some (.cells cs 101 (0, 0)) ∧ cs.size = M * 20 ∧ ∀ i, i < M → ∀ j, j < 20 → cs[i * 20 + j]? = (if i = 0 then mf 1 0 else mf 16 (-1))[j]?
  lgr : Lg w' base lg 1 [.int .i64 0, .int .i64 0, .int .i64 (-1), .int .i64 (-1), .int .i64 0]
  nd : ([W, b1, g1, b2, g2, tb, q, p, mb] : List Nat).Nodup
  lo : ∀ k ∈ ([W, b1, g1, b2, g2, tb, q, p, mb] : List Nat), N0 ≤ k ∧ k ≤ W
  ar : ∀ k, r = some k → k ∉ ([W, b1, g1, b2, g2, tb, q, p, mb] : List Nat) ∧ N0 ≤ k ∧ k ∉ gs ∧ rv.ownBlock ≠ some k
  al : ∀ k, lg.ownBlock = some k → k ∉ ([W, b1, g1, b2, g2, tb, q, p, mb] : List Nat) ∧ N0 ≤ k ∧ k ∉ gs ∧ rv.ownBlock ≠ some k ∧ r ≠ some k
  az : ∀ k, (k ∈ ([W, b1, g1, b2, g2, tb, q, p, mb] : List Nat) ∨ k ∈ gs ∨ rv.ownBlock = some k ∨ r = some k ∨ lg.ownBlock = some k) → Z k
def Nw0 (w0 : World) (P M : Nat) (G : Int) (W : Nat) (w' : World) : Prop :=
  Below w0.heap.size w0 w' ∧ ∃ b1 g1 b2 g2 tb q p sb ib mb r rv lg gs base rbase wd Z, Nf P M G W b1 g1 b2 g2 tb q p sb ib mb r rv lg gs base rbase wd w0.heap.size Z w'
/-- The blocks of a new world, but for the rings', the queue's numbers' and the log's. -/
abbrev Lb (W b1 g1 b2 g2 tb q p mb : Nat) : List Nat := [W, b1, g1, b2, g2, tb, q, p, mb]
section
variable {w0 y y1 : World} {P M wd : Nat} {G sp nt fr : Int} {b1 g1 b2 g2 tb q p sb ib mb lo hi W : Nat} {r : Option Nat}
/-- Behind Put. -/
structure Ps (w0 : World) (P M wd : Nat) (G sp nt fr : Int) (W b1 g1 b2 g2 tb q p sb ib mb rbase : Nat) (w4 : World) : Prop where
  bl : Below w0.heap.size w0 w4
  m1 : Mem w4 b1 g1 (List.replicate wd 0) 0
  m2 : Mem w4 b2 g2 (List.replicate wd 0) 0
  tu : w4.heap[tb]? = some (.cells (madeCells #[.int .i64 0] P) 3 (0, 0))
  ex : ∃ (rv : Value) (gs : List Nat) (r' : Option Nat) (Z : Nat → Prop), w4.heap[W]? = some (.cells (wcR P M G sp nt fr b1 b2 rv tb q sb ib mb (.slice none 0 0)) 95 (0, 0)) ∧ w4.ownsRow rbase 107 1 rv P (gs.map pg) ∧ Rgs rbase rv gs w4 ∧ gs.length = P ∧ Qu w4 q p P r' [0] ∧ Ids Z ib P (idf P) [] M (ssOf M) (plOf M) w4 ∧
    (∀ k, (k ∈ Lb W b1 g1 b2 g2 tb q p mb ∨ k ∈ gs ∨ rv.ownBlock = some k ∨ r' = some k) → Z k) ∧ (∀ k, r' = some k → k ∉ Lb W b1 g1 b2 g2 tb q p mb ∧ w0.heap.size ≤ k ∧ k ∉ gs ∧ rv.ownBlock ≠ some k)
  mc : ∃ cs, w4.heap[mb]? = some (.cells cs 101 (0, 0)) ∧ cs.size = M * 20 ∧ ∀ i, i < M → ∀ j, j < 20 → cs[i * 20 + j]? = (if i = 0 then mf 1 0 else mf 16 (-1))[j]?
  nd : (Lb W b1 g1 b2 g2 tb q p mb).Nodup
  lo : ∀ k ∈ Lb W b1 g1 b2 g2 tb q p mb, w0.heap.size ≤ k ∧ k ≤ W
  rb : W < rbase
  tab : 7 < w0.heap.size
set_option maxHeartbeats 1000000 in
theorem psg_1 (hJ : Ja w0 P M wd y b1 g1 b2 g2 tb q p r ib mb lo hi) (hy : Below y.heap.size y y1) (hy1 : y1.heap.size = y.heap.size + 1) (hM : 0 < M) (hT : 7 < w0.heap.size) {rv : Value} {gs : List Nat} {w3 : World} (L : L2 y1 y.heap.size lo hi P M G sp nt fr b1 b2 tb q sb ib mb rv gs M M (mf 1 0) w3) :
    Calls Tryz.prog 75 #[.pointer (some ⟨q, 0, none⟩), .slice (some ⟨w3.heap.size, 0, none⟩) 1 1] (w3.alloc (.cells #[.int .i64 0] 3)) fun e w4 => e = .returned (.tuple #[]) ∧ Ps w0 P M wd G sp nt fr y.heap.size b1 g1 b2 g2 tb q p sb ib mb y1.heap.size w4 := by
  have ho := L.own
  obtain ⟨Z, hz, z1, z2⟩ := L.id
  obtain ⟨cs, c1, c2, c3⟩ := L.mc
  obtain ⟨l1, l2, l3, l4, l5, l6, lT⟩ := L.lt
  have hbs := hJ.bl.size
  obtain ⟨v1, v2, v3, v4, v5, v6, v7, v8⟩ := hJ.ge
  have lq := hJ.qu.lt
  have lp := hJ.qu.hb.lt
  have lr := hJ.qu.hb.rlt
  have lb1 := hJ.m1.sb
  have lg1 := hJ.m1.sg
  have lb2 := hJ.m2.sb
  have lg2 := hJ.m2.sg
  have lt := blk_lt hJ.tu
  have nb1 := hJ.m1.ne
  have nb2 := hJ.m2.ne
  have nqp := hJ.qu.ne
  have nrq := hJ.qu.nr
  have nrp := hJ.qu.hb.ne
  have hs3 := L.fr.size
  obtain ⟨a11, a12, a13, a14⟩ := hJ.a1
  obtain ⟨n1, n2, n3, n4, n5, n6, n7, n8, n9, n10, n11, n12⟩ := hJ.a2
  obtain ⟨e1, e2, e3, e4, e5, e6, e7⟩ := hJ.a3
  obtain ⟨i1, i2, i3, i4, i5, i6, i7⟩ := hJ.a4
  obtain ⟨⟨t1, t2, t3, t4⟩, ⟨t5, t6, t7, t8⟩, t9, t10⟩ := hJ.a6
  have f3 : ∀ k, k < y.heap.size → k ≠ mb → ¬ (lo ≤ k ∧ k < hi) → w3.heap[k]? = y.heap[k]? := fun k h1 h2 h3 =>
    (L.fr.block k (by omega) (fun e => by rcases e with e | e | e <;> omega)).trans (hy.block k h1)
  have hQ3 : Qu w3 q p P r [] := ⟨(f3 q lq e5 i5).trans hJ.qu.hq, hJ.qu.hb.kept (f3 p lp e6 i6) (fun k hk => f3 k (lr k hk) (fun e => e7 (by rw [hk, e])) (hJ.a5 k hk)), hJ.qu.ne, hJ.qu.nr, hJ.qu.lo, hJ.qu.hi⟩
  have hba : Below w3.heap.size w3 (w3.alloc (.cells #[.int .i64 0] 3)) := bla w3 _
  have hQa := hQ3.below hba
  have hnew := heap_alloc_new w3 (.cells #[.int .i64 0] 3)
  have hRd : Reads (w3.alloc (.cells #[.int .i64 0] 3)) (.slice (some ⟨w3.heap.size, 0, none⟩) 1 1) [0] :=
    ⟨_, 1, rfl, ⟨by simp, by unfold maxLen; omega, .inr ⟨_, rfl⟩⟩, fun _ => ⟨_, 0, rfl, by simp, fun j hj => by
      have : j = 0 := by simp at hj; exact hj
      subst this
      exact blk_cell hnew rfl⟩⟩
  refine (qput q p P r [] [0] _ _ hQa hRd (by simp)).mono ?_
  rintro e w4 ⟨rfl, r', hb, hoo, hr'⟩
  have hQ4 := hQa.after hoo hb hr'
  have s3 : (w3.alloc (.cells #[.int .i64 0] 3)).heap.size = w3.heap.size + 1 := by simp
  have s4 := hoo.size
  have k4 : ∀ k, k < w3.heap.size → k ≠ p → r ≠ some k → w4.heap[k]? = w3.heap[k]? := fun k h1 h2 h3 => (hoo.block k (by omega) h2 (Ne.symm h3)).trans (hba.block k h1)
  have k5 : ∀ k, y1.heap.size ≤ k → k < w3.heap.size → w4.heap[k]? = w3.heap[k]? := fun k h1 h2 => k4 k h2 (by omega) (fun e => by have := lr _ e; omega)
  have fin : ∀ k, k < y.heap.size → k ≠ mb → ¬ (lo ≤ k ∧ k < hi) → k ≠ p → r ≠ some k → w4.heap[k]? = y.heap[k]? := fun k h1 h2 h3 h4 h5 => (k4 k (by omega) h4 h5).trans (f3 k h1 h2 h3)
  have zp : ∀ k, (k = p ∨ r = some k) → Z k := fun k hk => by
    rcases hk with hk | hk
    · exact z1 k (by omega) (by rw [hk]; exact i6)
    · exact z1 k (by have := lr k hk; omega) (hJ.a5 k hk)
  have hLz : ∀ k ∈ Lb y.heap.size b1 g1 b2 g2 tb q p mb, k < y1.heap.size ∧ ¬ (lo ≤ k ∧ k < hi) ∧ w0.heap.size ≤ k ∧ k ≤ y.heap.size := fun k hk => by
    simp only [List.mem_cons, List.not_mem_nil, or_false] at hk
    rcases hk with h | h | h | h | h | h | h | h | h <;> subst h
    · exact ⟨by omega, by omega, by omega, by omega⟩
    · exact ⟨by omega, i1, v1, by omega⟩
    · exact ⟨by omega, i2, v2, by omega⟩
    · exact ⟨by omega, i3, v3, by omega⟩
    · exact ⟨by omega, i4, v4, by omega⟩
    · exact ⟨by omega, t9, t10, by omega⟩
    · exact ⟨by omega, i5, v5, by omega⟩
    · exact ⟨by omega, i6, v6, by omega⟩
    · exact ⟨by omega, i7, v7, by omega⟩
  refine ⟨rfl, ⟨hoo.os.trans (hba.os.trans (L.fr.os.trans (hy.os.trans hJ.bl.os))), hoo.tape.trans (hba.tape.trans (L.fr.tape.trans (hy.tape.trans hJ.bl.tape))), hoo.output.trans (hba.output.trans (L.fr.output.trans (hy.output.trans hJ.bl.output))), by omega, fun k hk => ?_⟩,
    hJ.m1.blocks (fin b1 lb1 e1 i1 n2 n3) (fin g1 lg1 e2 i2 n5 n6), hJ.m2.blocks (fin b2 lb2 e3 i3 n8 n9) (fin g2 lg2 e4 i4 n11 n12), (fin tb lt (Ne.symm t8) t9 (Ne.symm t6) t7).trans hJ.tu,
    ⟨rv, gs, r', fun k => Z k ∨ (w3.heap.size ≤ k ∧ k < w4.heap.size), (k4 _ (by omega) (by omega) (fun e => by have := lr _ e; omega)).trans L.hW, own_kept ho (fun k hk => k5 k (ho.lt k hk).1 (ho.lt k hk).2), L.rgs.kept (fun g hg => k5 g (L.rgs.lt hg).1 (L.rgs.lt hg).2), by simpa using ho.1, hQ4, ?_, fun k hk => ?_, fun k hk => ?_⟩,
    ⟨cs, (k4 mb (by omega) (Ne.symm e6) e7).trans c1, c2, c3⟩, ?_, fun k hk => ⟨(hLz k hk).2.2.1, (hLz k hk).2.2.2⟩, by omega, hT⟩
  · rw [fin k (by omega) (by omega) (by omega) (by omega) (fun e => by have := hJ.gr k e; omega)]
    exact hJ.bl.block k hk
  · exact hz.rez (fun k h1 h2 => k4 k h2 (fun e => h1 (zp k (.inl e))) (fun e => h1 (zp k (.inr e)))) (k4 _ (by omega) (by omega) (fun e => by have := hJ.gr _ e; omega)) (fun k h1 h2 e => e.elim h1 (fun e => by omega)) (fun k hk => by
      rcases hk with hk | hk
      · have := hz.zl k hk; omega
      · exact hk.2) (.inl hz.hz)
  · rcases hk with hk | hk | hk | hk
    · exact .inl (z1 k (hLz k hk).1 (hLz k hk).2.1)
    · exact .inl (z2 k (.inr hk))
    · exact .inl (z2 k (.inl hk))
    · have hk4 := hQ4.hb.rlt k hk
      rcases hr' with h | h
      · exact .inl (zp k (.inr (h ▸ hk)))
      · have := h k hk; exact .inr ⟨by omega, hk4⟩
  · have c : r = some k ∨ w3.heap.size ≤ k := by
      rcases hr' with h | h
      · exact .inl (h ▸ hk)
      · have := h k hk; exact .inr (by omega)
    rcases c with c | c
    · have lk := lr k c
      refine ⟨?_, hJ.gr k c, fun e => by have := (L.rgs.lt e).1; omega, fun e => by have := (ho.lt k e).1; omega⟩
      simp only [List.mem_cons, List.not_mem_nil, or_false, not_or]
      exact ⟨by omega, fun e => n3 (by rw [c, e]), fun e => n6 (by rw [c, e]), fun e => n9 (by rw [c, e]), fun e => n12 (by rw [c, e]), fun e => t7 (by rw [c, e]), fun e => nrq (by rw [c, e]), fun e => nrp (by rw [c, e]), fun e => e7 (by rw [c, e])⟩
    · exact ⟨fun e => by have := (hLz k e).1; omega, by omega, fun e => by have := (L.rgs.lt e).2; omega, fun e => by have := (ho.lt k e).2; omega⟩
  · simp only [List.nodup_cons, List.mem_cons, List.not_mem_nil, or_false, not_or, List.nodup_nil, and_true, not_false_eq_true]
    exact ⟨⟨by omega, by omega, by omega, by omega, by omega, by omega, by omega, by omega⟩, ⟨nb1, a11, a12, t1, n1, n2, e1⟩, ⟨a13, a14, t2, n4, n5, e2⟩, ⟨nb2, t3, n7, n8, e3⟩, ⟨t4, n10, n11, e4⟩, ⟨Ne.symm t5, Ne.symm t6, Ne.symm t8⟩, ⟨nqp, e5⟩, e6⟩
set_option maxHeartbeats 1000000 in
theorem psg_2 {rbase : Nat} {w4 : World} (hok : OkC P M G) (hwd : (wd : Int) = 2 * ((P : Int) + 2) + 1 + (M : Int) + G) (h : Ps w0 P M wd G (2 * ((P : Int) + 2)) (2 * ((P : Int) + 2) + 1) (2 * ((P : Int) + 2) + 1 + (M : Int)) W b1 g1 b2 g2 tb q p sb ib mb rbase w4) (T2 : EvNames w0) (T3 : EvSteps w0) (U2 : 3 < w0.heap.size) (U3 : 1 < w0.heap.size) :
    Calls Tryz.prog 76 #[.pointer (some ⟨W, 0, none⟩), .agg #[.int .i64 0, .int .i64 0, .int .i64 (-1), .int .i64 (-1), .int .i64 0]] w4 fun e w5 => e = .returned (.tuple #[]) ∧ Nw0 w0 P M G W w5 := by
  obtain ⟨rv, gs, r', Z, hW, ho, hg, gl, hQ, hz, zz, rr⟩ := h.ex
  obtain ⟨cs, c1, c2, c3⟩ := h.mc
  have nd := h.nd
  simp only [List.nodup_cons, List.mem_cons, List.not_mem_nil, or_false, not_or, List.nodup_nil, and_true, not_false_eq_true] at nd
  obtain ⟨⟨w1, w2, w3, w4', w5, w6, w7, w8⟩, ⟨b11, b12, b13, b14, b15, b16, b17⟩, ⟨g11, g12, g13, g14, g15, g16⟩, ⟨b21, b22, b23, b24, b25⟩, ⟨g21, g22, g23, g24⟩, ⟨t1, t2, t3⟩, ⟨q1, q2⟩, p1⟩ := nd
  obtain ⟨o1, o2, o3, o4, o5, o6⟩ := hok
  have hlo := h.lo
  have hrb := h.rb
  have hs4 := h.bl.size
  have hT := h.tab
  have hlen : (List.replicate wd (0 : Int)).length = wd := List.length_replicate
  have LW : ∀ k ∈ Lb W b1 g1 b2 g2 tb q p mb, k < rbase := fun k hk => by have := (hlo k hk).2; omega
  refine (see_gen (w := w4) (f := 2 * ((P : Int) + 2) + 1 + (M : Int)) (n := G) (cs := wcR P M G (2 * ((P : Int) + 2)) (2 * ((P : Int) + 2) + 1) (2 * ((P : Int) + 2) + 1 + (M : Int)) b1 b2 rv tb q sb ib mb (.slice none 0 0)) (lg := .slice none 0 0) (base := w4.heap.size) (ln := 0) (j := 0) (m := -1) (p := -1) (x := 0) (evs := []) (g1 := g1) (g2 := g2) (xs := List.replicate wd 0) (ys := List.replicate wd 0) (c := 0) (d := 0) 0 (by decide) ⟨hW, rfl, rfl, rfl, rfl⟩ rfl (by decide) ⟨World.ownsRow_nil _ _ _ _⟩ (by decide) (Nat.le_refl _) h.m1 h.m2 (by decide) (by decide) (by omega) (by omega) (by omega) (by rw [hlen]; omega) (by rw [hlen]; omega) (by rw [hlen]; omega) (by rw [hlen]; omega) (T2.at h.bl) (T3.at h.bl) ⟨b12, b13, g11, g12, w1, w2, w3, w4'⟩ (fun k hk => by simp [Value.ownBlock] at hk)).mono ?_
  rintro e wz ⟨rfl, lg', hWg, hL, hM1, hM2, hlW, hlo5, ho5⟩
  have ho5 : OnL [W, b1, g1, b2, g2] w4 wz := ho5.mono (by simp [Value.ownBlock])
  have hs5 := ho5.size
  have kk : ∀ k, k < w4.heap.size → k ≠ W → k ≠ b1 → k ≠ g1 → k ≠ b2 → k ≠ g2 → wz.heap[k]? = w4.heap[k]? := fun k h0 h1 h2 h3 h4 h5 => ho5.block k h0 (by simp; omega)
  have zS : ∀ k, k = W ∨ k = b1 ∨ k = g1 ∨ k = b2 ∨ k = g2 → Z k := fun k hk => zz k (.inl (by
    simp only [List.mem_cons, List.not_mem_nil, or_false]
    rcases hk with h | h | h | h | h
    · exact .inl h
    · exact .inr (.inl h)
    · exact .inr (.inr (.inl h))
    · exact .inr (.inr (.inr (.inl h)))
    · exact .inr (.inr (.inr (.inr (.inl h))))))
  have mW : W ∈ Lb W b1 g1 b2 g2 tb q p mb := by simp
  have kb : ∀ k, rbase ≤ k → k < w4.heap.size → wz.heap[k]? = w4.heap[k]? := fun k h1 h2 => by
    have a0 := LW W mW
    have a1 := LW b1 (by simp)
    have a2 := LW g1 (by simp)
    have a3 := LW b2 (by simp)
    have a4 := LW g2 (by simp)
    exact kk k h2 (by omega) (by omega) (by omega) (by omega) (by omega)
  have hl4 : ∀ k ∈ Lb W b1 g1 b2 g2 tb q p mb, k < w4.heap.size := fun k hk => by
    have := (hlo k hk).2
    have := blk_lt hW
    omega
  have rr' : ∀ k, r' = some k → k ≠ W ∧ k ≠ b1 ∧ k ≠ g1 ∧ k ≠ b2 ∧ k ≠ g2 := fun k hk => by
    have h1 := (rr k hk).1
    simp only [List.mem_cons, List.not_mem_nil, or_false, not_or] at h1
    exact ⟨h1.1, h1.2.1, h1.2.2.1, h1.2.2.2.1, h1.2.2.2.2.1⟩
  have al : ∀ k, lg'.ownBlock = some k → w4.heap.size ≤ k := fun k hk => by
    rcases hlo5 k hk with e | e
    · simp [Value.ownBlock] at e
    · exact e
  refine ⟨rfl, h.bl.trans (ho5.below (B := w0.heap.size) (fun k hk => ?_) hs4), b1, g1, b2, g2, tb, q, p, sb, ib, mb, r', rv, lg', gs, w4.heap.size, rbase, wd, (fun k => Z k ∨ (w4.heap.size ≤ k ∧ k < wz.heap.size)), hWg.h, hwd, hM1, hM2, own_kept ho (fun k hk => kb k (ho.lt k hk).1 (ho.lt k hk).2), hg.kept (fun g hgg => kb g (hg.lt hgg).1 (hg.lt hgg).2), gl, hrb, (kk tb (hl4 tb (by simp)) (Ne.symm w5) (Ne.symm b14) (Ne.symm g13) (Ne.symm b22) (Ne.symm g21)).trans h.tu,
    ⟨(kk q hQ.lt (Ne.symm w6) (Ne.symm b15) (Ne.symm g14) (Ne.symm b23) (Ne.symm g22)).trans hQ.hq, hQ.hb.kept (kk p hQ.hb.lt (Ne.symm w7) (Ne.symm b16) (Ne.symm g15) (Ne.symm b24) (Ne.symm g23)) (fun k hk => kk k (hQ.hb.rlt k hk) (rr' k hk).1 (rr' k hk).2.1 (rr' k hk).2.2.1 (rr' k hk).2.2.2.1 (rr' k hk).2.2.2.2), hQ.ne, hQ.nr, hQ.lo, hQ.hi⟩, ?_, ⟨cs, (kk mb (blk_lt c1) (Ne.symm w8) (Ne.symm b17) (Ne.symm g16) (Ne.symm b25) (Ne.symm g24)).trans c1, c2, c3⟩, hL, h.nd, hlo, rr, fun k hk => ?_, fun k hk => ?_⟩
  · have hm : k ∈ Lb W b1 g1 b2 g2 tb q p mb := by
      simp only [List.mem_cons, List.not_mem_nil, or_false] at hk ⊢
      rcases hk with h | h | h | h | h
      · exact .inl h
      · exact .inr (.inl h)
      · exact .inr (.inr (.inl h))
      · exact .inr (.inr (.inr (.inl h)))
      · exact .inr (.inr (.inr (.inr (.inl h))))
    exact (hlo k hm).1
  · exact hz.rez (fun k h1 h2 => kk k h2 (fun e => h1 (zS k (.inl e))) (fun e => h1 (zS k (.inr (.inl e)))) (fun e => h1 (zS k (.inr (.inr (.inl e))))) (fun e => h1 (zS k (.inr (.inr (.inr (.inl e)))))) (fun e => h1 (zS k (.inr (.inr (.inr (.inr e))))))) (by
      have t0 := (hlo W mW).1
      have t1' := (hlo b1 (by simp)).1
      have t2' := (hlo g1 (by simp)).1
      have t3' := (hlo b2 (by simp)).1
      have t4' := (hlo g2 (by simp)).1
      exact kk _ (by omega) (by omega) (by omega) (by omega) (by omega) (by omega)) (fun k h1 h2 e => e.elim h1 (fun e => by omega)) (fun k hk => by
      rcases hk with hk | hk
      · have := hz.zl k hk; omega
      · exact hk.2) (.inl hz.hz)
  · have h1 := al k hk
    exact ⟨fun e => by have := hl4 k e; omega, by omega, fun e => by have := (hg.lt e).2; omega, fun e => by have := (ho.lt k e).2; omega, fun e => by have := hQ.hb.rlt k e; omega⟩
  · rcases hk with hk | hk | hk | hk | hk
    · exact .inl (zz k (.inl hk))
    · exact .inl (zz k (.inr (.inl hk)))
    · exact .inl (zz k (.inr (.inr (.inl hk))))
    · exact .inl (zz k (.inr (.inr (.inr hk))))
    · exact .inr ⟨al k hk, (hL.lt k hk).2⟩
end
end Go.Proofs.YtfpkgkjmpcoppaaGreatDoor
