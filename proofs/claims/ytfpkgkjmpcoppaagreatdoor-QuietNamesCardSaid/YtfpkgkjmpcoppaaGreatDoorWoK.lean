/- A world of one: see; a step at Dispatch. -/
import Derived.Test.YtfpkgkjmpcoppaaGreatDoorWoJ
namespace Go.Proofs.YtfpkgkjmpcoppaaGreatDoor
open Go.RowKit
set_option linter.unusedVariables false
set_option linter.unusedSimpArgs false
set_option maxRecDepth 20000
theorem Mem.blocks {w w' : World} {b g : Nat} {xs : List Int} {c : Nat} (h : Mem w b g xs c) (e1 : w'.heap[b]? = w.heap[b]?) (e2 : w'.heap[g]? = w.heap[g]?) : Mem w' b g xs c := by
  obtain ⟨cap, cur, hb, hg, h1⟩ := h.h
  exact ⟨⟨cap, cur, e1.trans hb, e2.trans hg, h1⟩, h.ne, h.len, h.cnt⟩
section
variable {w w' : World} {W b1 b2 rb tb q sb ib mb rc : Nat} {lg : Value}
variable {pl p g nx got tg ii : Int} {sp inn : Bool} {rest : Value} {bk af ag s0 s1 s2 s3 s4 : Int} {yes : Bool} {un : Int}
/-- What see leaves. -/
def SeeP (W b1 g1 b2 g2 rb tb q sb ib mb rc base : Nat) (lg : Value) (n : Nat) (evs : List Value) (xs ys : List Int) (c d : Nat) (s k m p x : Int) (w w' : World) : Prop :=
  ∃ lg', Wb w' W b1 b2 rb tb q sb ib mb rc lg' ∧ Lg w' base lg' (n + 1) (evs ++ [.int .i64 k, .int .i64 0, .int .i64 m, .int .i64 p, .int .i64 x]) ∧ Mem w' b1 g1 (xs.set 8 s) (c + 1) ∧ Mem w' b2 g2 (ys.set 8 s) (d + 1) ∧
    lg'.ownBlock ≠ some W ∧ (∀ q, lg'.ownBlock = some q → lg.ownBlock = some q ∨ w.heap.size ≤ q) ∧ OnL (W :: b1 :: g1 :: b2 :: g2 :: lg.ownBlock.toList) w w'
set_option maxHeartbeats 8000000 in
theorem see_any {g1 g2 base n c d : Nat} {m p x : Int} {evs : List Value} {xs ys : List Int} (k : Nat) (hk : k < 8) (h : Wb w W b1 b2 rb tb q sb ib mb rc lg) (hr : evRight k 0 m p x = true) (hg : Lg w base lg n evs) (hn : n < 1000) (hb : base ≤ w.heap.size) (hm1 : Mem w b1 g1 xs c) (hm2 : Mem w b2 g2 ys d) (hc : c < 1000000) (hd : d < 1000000) (hl : xs.length = 9) (hl2 : ys.length = 9) (T2 : EvNames w) (T3 : EvSteps w)
    (ne : b1 ≠ b2 ∧ b1 ≠ g2 ∧ g1 ≠ b2 ∧ g1 ≠ g2 ∧ W ≠ b1 ∧ W ≠ g1 ∧ W ≠ b2 ∧ W ≠ g2) (nl : ∀ q, lg.ownBlock = some q → q ≠ W ∧ q ≠ b1 ∧ q ≠ g1 ∧ q ≠ b2 ∧ q ≠ g2) :
    Calls Tryz.prog 76 #[.pointer (some ⟨W, 0, none⟩), .agg #[.int .i64 k, .int .i64 0, .int .i64 m, .int .i64 p, .int .i64 x]] w fun e w' => e = .returned (.tuple #[]) ∧ SeeP W b1 g1 b2 g2 rb tb q sb ib mb rc base lg n evs xs ys c d (evStep1 k) k m p x w w' := by
  obtain ⟨s, hs⟩ : ∃ s, s = evStep1 k := ⟨_, rfl⟩
  obtain ⟨s', hs'⟩ : ∃ s', s' = evStep0 k := ⟨_, rfl⟩
  have hs07 : 0 ≤ s ∧ s < 7 := by
    rw [hs]
    match k, hk with
    | 0, _ | 1, _ | 2, _ | 3, _ | 4, _ | 5, _ | 6, _ | 7, _ => decide
  have hmf : ∀ (fn : Fn) (first cap : Array Value) (w : World), (Instr.makeFunc fn first cap).run Tryz.prog w = .ok (.func fn first cap) w := fun _ _ _ _ => rfl
  obtain ⟨wa, hwa⟩ : ∃ wa, wa = (w.alloc (.cells #[.pointer (some ⟨W, 0, none⟩)] 25)).alloc (.cells #[.int .i64 k, .int .i64 0, .int .i64 m, .int .i64 p, .int .i64 x] 147) := ⟨_, rfl⟩
  have ba : Below w.heap.size w wa := by rw [hwa]; exact ((Below.refl _ _).alloc (Nat.le_refl _) _).alloc (by simp) _
  have X0 := hid (show wa.heap[w.heap.size]? = some (.cells #[.pointer (some ⟨W, 0, none⟩)] 25 (0, 0)) by
    rw [hwa, Below.heap_alloc _ _ _ (by simp)]; exact heap_alloc_new w _)
  have X1 := hid (show wa.heap[w.heap.size + 1]? = some (.cells #[.int .i64 k, .int .i64 0, .int .i64 m, .int .i64 p, .int .i64 x] 147 (0, 0)) by
    have := heap_alloc_new (w.alloc (.cells #[.pointer (some ⟨W, 0, none⟩)] 25)) (.cells #[.int .i64 k, .int .i64 0, .int .i64 m, .int .i64 p, .int .i64 x] 147)
    rw [World.size_alloc, ← hwa] at this; exact this)
  have BA := hid ba
  have ES := hid (esteps_in k 0 m p x wa (T2.at ba) (T3.at ba) hk)
  rw [← hs, ← hs'] at ES
  rw [← hs]
  have HW := hid h
  have HG := hid hg
  have H1 := hid hm1
  have H2 := hid hm2
  have NE := hid ne
  have NL := hid nl
  have HR := hid hr
  have HB := hid hb
  have HL := hid (And.intro hl hl2)
  have HC := hid (And.intro hc hd)
  have HS := hid hs07
  have HN := hid hn
  have d1 : wa.cell? ⟨w.heap.size + 1, 0, none⟩ = some (.int .i64 k) := blk_cell X1.out rfl
  have d2 : wa.cell? ⟨w.heap.size + 1, 1, none⟩ = some (.int .i64 0) := blk_cell X1.out rfl
  have d3 : wa.cell? ⟨w.heap.size + 1, 2, none⟩ = some (.int .i64 m) := blk_cell X1.out rfl
  have d4 : wa.cell? ⟨w.heap.size + 1, 3, none⟩ = some (.int .i64 p) := blk_cell X1.out rfl
  have d5 : wa.cell? ⟨w.heap.size + 1, 4, none⟩ = some (.int .i64 x) := blk_cell X1.out rfl
  clear h hg hm1 hm2 ne nl hr hb hl hl2 hc hd hs07 hn ba T2 T3 hs hs' hk
  go_enter Tryz.func76, Tryz.ntmps76
  go_upto_region 1 with (fail)
  rw [← hwa]
  clear hwa
  go_wp2_with fail
  refine ES.out.mono ?_
  rintro e w2 ⟨rfl, hb2⟩
  have B2 := hid (BA.out.trans (hb2.mono BA.out.size))
  have Y0 := hid ((hb2.block _ (blk_lt X0.out)).trans X0.out)
  have Y1 := hid ((hb2.block _ (blk_lt X1.out)).trans X1.out)
  clear hb2 d1 d2 d3 d4 d5 ES X0 X1 BA
  obtain ⟨pt, hpt⟩ : ∃ pt, pt = w2.heap.size := ⟨_, rfl⟩
  obtain ⟨w3, hw3⟩ : ∃ w3, w3 = w2.alloc (.cells #[.int .u64 s] 31) := ⟨_, rfl⟩
  have b3 : Below w2.heap.size w2 w3 := by rw [hw3]; exact (Below.refl _ _).alloc (Nat.le_refl _) _
  have Z := hid (show Sb w3 W w.heap.size (w.heap.size + 1) pt k 0 m p x s from ⟨(b3.block _ (blk_lt Y0.out)).trans Y0.out, (b3.block _ (blk_lt Y1.out)).trans Y1.out, by rw [hw3, hpt]; exact heap_alloc_new _ _⟩)
  have B3 := hid (B2.out.trans (b3.mono B2.out.size))
  have PT := hid (show w.heap.size ≤ pt by rw [hpt]; exact B2.out.size)
  have W3 := hid (HW.out.kept (w' := w3) (B3.out.block _ HW.out.lt))
  have d0 : w3.cell? ⟨w.heap.size, 0, none⟩ = some (.pointer (some ⟨W, 0, none⟩)) := blk_cell Z.out.a rfl
  have BS := hid (both_see W3.out Z.out (H1.out.below B3.out H1.out.sb H1.out.sg) (H2.out.below B3.out H2.out.sb H2.out.sg) HC.out.1 HC.out.2 HL.out.1 HL.out.2 HS.out.1 HS.out.2 (by have := NE.out; omega) (by
    have := H1.out.sb; have := H1.out.sg; have := PT.out
    omega))
  clear b3
  go_upto_region 2 with (fail)
  rw [← hw3, ← hpt]
  clear hw3 hpt
  go_wp2_with fail
  refine BS.out.mono ?_
  rintro e w4 ⟨rfl, hm1, hm2, ho⟩
  have M1 := hid hm1
  have M2 := hid hm2
  have O4 := hid ho
  have Z4 := hid (Z.out.kept (w' := w4) (ho.block _ (blk_lt Z.out.a) (by have := H1.out.sb; have := H1.out.sg; have := H2.out.sb; have := H2.out.sg; simp; omega)) (ho.block _ (blk_lt Z.out.b) (by have := H1.out.sb; have := H1.out.sg; have := H2.out.sb; have := H2.out.sg; simp; omega)) (ho.block _ (blk_lt Z.out.c) (by have := H1.out.sb; have := H1.out.sg; have := H2.out.sb; have := H2.out.sg; have := PT.out; simp; omega)))
  have W4 := hid (W3.out.kept (w' := w4) (ho.block _ W3.out.lt (by have := NE.out; simp; omega)))
  have G4 := hid ((HG.out.kept (w' := w3) (fun b hb => B3.out.block b (HG.out.lt b hb).2)).kept (w' := w4) (fun b hb => ho.block b (by have := (HG.out.lt b hb).2; have := B3.out.size; omega) (by have := NL.out b hb; simp; omega)))
  clear hm1 hm2 ho BS d0
  have d0 : w4.cell? ⟨w.heap.size, 0, none⟩ = some (.pointer (some ⟨W, 0, none⟩)) := blk_cell Z4.out.a rfl
  have d1 : w4.cell? ⟨w.heap.size + 1, 0, none⟩ = some (.int .i64 k) := blk_cell Z4.out.b rfl
  have d2 : w4.cell? ⟨w.heap.size + 1, 1, none⟩ = some (.int .i64 0) := blk_cell Z4.out.b rfl
  have d3 : w4.cell? ⟨w.heap.size + 1, 2, none⟩ = some (.int .i64 m) := blk_cell Z4.out.b rfl
  have d4 : w4.cell? ⟨w.heap.size + 1, 3, none⟩ = some (.int .i64 p) := blk_cell Z4.out.b rfl
  have d5 : w4.cell? ⟨w.heap.size + 1, 4, none⟩ = some (.int .i64 x) := blk_cell Z4.out.b rfl
  have SZ := hid (Nat.le_trans B3.out.size O4.out.size)
  have LA := hid (fun (y : World) (hq : Quiet w4 y) => (log_add y W 15 base lg n evs k 0 m p x HR.out ((W4.out.kept (w' := y) (by obtain ⟨n, rfl⟩ := hq; rfl)).c15) ((W4.out.kept (w' := y) (by obtain ⟨n, rfl⟩ := hq; rfl)).fz 15) (G4.out.kept (fun b hb => by obtain ⟨n, rfl⟩ := hq; rfl)) (fun e => (NL.out W e).1 rfl) (by have := HB.out; have := SZ.out; obtain ⟨n, rfl⟩ := hq; simp; omega) (by have := HN.out; omega)).mono (R' := fun e w' => e = .returned (.bool true) ∧ SeeP W b1 g1 b2 g2 rb tb q sb ib mb rc base lg n evs xs ys c d s k m p x w w') fun e w5 hx => by
    obtain ⟨he, v', w6, rfl, hlg, hvW, hvo, ho1, ho2, ho3, hsz, hblk⟩ := hx
    have e0 : ∀ b : Nat, y.heap[b]? = w4.heap[b]? := fun b => by obtain ⟨n, rfl⟩ := hq; rfl
    have es : y.heap.size = w4.heap.size := by obtain ⟨n, rfl⟩ := hq; rfl
    have eo : y.os = w4.os ∧ y.tape = w4.tape ∧ y.output = w4.output := by obtain ⟨n, rfl⟩ := hq; exact ⟨rfl, rfl, rfl⟩
    have kb : ∀ b : Nat, b < w4.heap.size → b ≠ W → lg.ownBlock ≠ some b → (w6.setCell ⟨W, 15, none⟩ v').heap[b]? = w4.heap[b]? := fun b h1 h2 h3 => (Below.heap_setCell _ _ _ _ h2).trans ((hblk b (by omega) h3).trans (e0 b))
    refine ⟨he, v', ⟨?_⟩, hlg, M1.out.blocks (kb b1 M1.out.sb (by have := NE.out; omega) (fun e => (NL.out b1 e).2.1 rfl)) (kb g1 M1.out.sg (by have := NE.out; omega) (fun e => (NL.out g1 e).2.2.1 rfl)), M2.out.blocks (kb b2 M2.out.sb (by have := NE.out; omega) (fun e => (NL.out b2 e).2.2.2.1 rfl)) (kb g2 M2.out.sg (by have := NE.out; omega) (fun e => (NL.out g2 e).2.2.2.2 rfl)), hvW, fun b hb => ?_, ?_⟩
    · exact blk_set v' ((hblk W (by have := W4.out.lt; omega) (fun e => (NL.out W e).1 rfl)).trans ((e0 W).trans W4.out.h)) rfl
    · rcases hvo b hb with h | h
      · exact .inl h
      · exact .inr (by have := SZ.out; omega)
    · have o1 : OnL (W :: b1 :: g1 :: b2 :: g2 :: lg.ownBlock.toList) w w4 := (OnL.of_below B3.out).trans (O4.out.mono (by simp))
      exact o1.trans ⟨ho1.trans eo.1, ho2.trans eo.2.1, ho3.trans eo.2.2, by simp [World.setCell]; omega, fun b hb hn => kb b hb (fun e => hn (by simp [e])) (fun e => hn (by simp [e]))⟩)
  clear Z4 W4 G4 M1 M2 O4
  go_wp2_with fail
  go_region_with (go_at_call 116; refine (LA.out _ ⟨_, rfl⟩).mono ?_; rintro e w7 ⟨rfl, h7⟩)
  all_goals
    have H7 := hid h7
    clear h7
    go_wp2
    go_end0
    exact ⟨rfl, H7.out⟩
end
end Go.Proofs.YtfpkgkjmpcoppaaGreatDoor
