/- The document's timers: each deed in one contract. -/
import Derived.Test.YtaogpodncphpjaaTW
import Derived.Test.YtaogpodncphpjaaRef10D
namespace Go.Proofs.Ytaogpodncphpjaa
set_option linter.unusedVariables false
set_option linter.unusedSimpArgs false
open Go.RowKit Tk
theorem DtPost.re {w : World} {v : Value} {D D' : List Tr} {N o o' er er' : Int} {e : Ending} {w' : World} (h : DtPost w v D N o er e w') (h1 : D' = D) (h2 : o' = o) (h3 : er' = er) : DtPost w v D' N o' er' e w' := by subst h1; subst h2; subst h3; exact h
theorem rtadd_all (w : World) (n o : Nat) (v : Value) (D : List Tr) (h : Dt w v D) (hl : D.length < 1000) (ho : o < 1000000) (p g x : Int) :
    Calls Try.prog 53 #[.agg #[.int .i64 n, v, .int .u64 o], .int .i64 p, .int .i64 g, .int .i64 x] w (DtPost w v (addD n D p g x o) n (addO n D p g o) (addE n D p g)) := by
  by_cases hb : p < 0 ∨ (n : Int) ≤ p ∨ g < 0 ∨ 4095 < g
  · have e1 : addE n D p g = 1 := if_pos hb
    exact (rtadd_arg w n o v D h p g x hb).mono fun e w' hp => hp.re (by unfold addD; rw [e1]; rfl) (by unfold addO; rw [e1]; rfl) e1
  · rcases hs : thasb D g with _ | _
    · have e1 : addE n D p g = 0 := by unfold addE; rw [if_neg hb, if_neg (by rw [hs]; simp)]
      exact (rtadd_new w n o v D h p g x (by omega) (by omega) (by omega) (by omega) hs hl ho).mono fun e w' hp => hp.re (by unfold addD; rw [e1, if_pos rfl]) (by unfold addO; rw [e1, if_pos rfl]; omega) e1
    · have e1 : addE n D p g = 8 := by unfold addE; rw [if_neg hb, if_pos hs]
      exact (rtadd_same w n o v D h p g x (by omega) (by omega) (by omega) (by omega) hs).mono fun e w' hp => hp.re (by unfold addD; rw [e1]; rfl) (by unfold addO; rw [e1]; rfl) e1
theorem rttake_all (w : World) (N o : Int) (v : Value) (D : List Tr) (h : Dt w v D) (x : Int) :
    Calls Try.prog 33 #[.agg #[.int .i64 N, v, .int .u64 o], .int .i64 x] w (TtPost w v (tkD D x) N o (tkE D x) (dueT D x)) := by
  by_cases hd : ∃ y l, sortE (ofL (-1) D) = y :: l ∧ y.1 ≤ x
  · obtain ⟨⟨y1, y2, y3⟩, l, hL, hy⟩ := hd
    have e : firstE D = (y1, y2, y3) :: l := by unfold firstE; rw [← ofL_all]; exact hL
    have e1 : tkE D x = (y1, y2, y3) := by unfold tkE; rw [e]; simp [hy]
    have e2 : dueT D x = true := by unfold dueT dueL; rw [e]; simpa using hy
    have e3 : tkD D x = butE (y1, y2, y3) D := by unfold tkD; rw [e2, e1]; rfl
    rw [e1, e2, e3]
    exact rttake_some w N o v D h x y1 y2 y3 l hL hy
  · have hn : ∀ y l, sortE (ofL (-1) D) = y :: l → x < y.1 := fun y l e => by
      have : ¬ y.1 ≤ x := fun q => hd ⟨y, l, e, q⟩
      omega
    have e0 : ∀ y l, firstE D = y :: l → x < y.1 := fun y l e => hn y l (by rw [ofL_all]; exact e)
    have e1 : tkE D x = (0, 0, 0) := by
      unfold tkE
      rcases hf : firstE D with _ | ⟨y, l⟩
      · rfl
      · have := e0 y l hf
        simp only
        rw [if_neg (by omega)]
    have e2 : dueT D x = false := by
      unfold dueT dueL
      rcases hf : firstE D with _ | ⟨y, l⟩
      · rfl
      · have := e0 y l hf
        simp only
        exact decide_eq_false (by omega)
    have e3 : tkD D x = D := by unfold tkD; rw [e2]; rfl
    rw [e1, e2, e3]
    exact rttake_none w N o v D h x hn
/-- What comes first, as Next tells it. -/
def nextT (D : List Tr) : Int := match firstE D with | [] => 0 | y :: _ => y.1
section
variable {w wr : World} {t n B k o op : Nat} {D : List Tr} {vD : Value} {X : List (Nat × Obj)}
theorem TW.next (h : TW w t n B k X D o D op vD wr) : Calls Try.prog 40 #[.pointer (some ⟨t, 0, none⟩)] wr fun e w' => e = .returned (.tuple #[.int .i64 (nextT D), .bool (decide (0 < D.length))]) ∧ Below wr.heap.size wr w' := by
  obtain ⟨Z, es, L, h1, h2, h3⟩ := h.te
  have hf : firstE D = L := h2.l
  have hl := h2.len
  rcases L with _ | ⟨⟨x1, x2, x3⟩, l⟩
  · have e1 : nextT D = 0 := by unfold nextT; rw [hf]
    have e2 : decide (0 < D.length) = false := decide_eq_false (by simp at hl; omega)
    rw [e1, e2]
    exact te_next0 h1
  · have e1 : nextT D = x1 := by unfold nextT; rw [hf]
    have e2 : decide (0 < D.length) = true := decide_eq_true (by simp at hl; omega)
    rw [e1, e2]
    exact te_next h1
theorem TW.len (h : TW w t n B k X D o D op vD wr) : Calls Try.prog 35 #[.pointer (some ⟨t, 0, none⟩)] wr fun e w' => e = .returned (.int .i64 D.length) ∧ w' = wr := by
  obtain ⟨Z, es, L, h1, h2, h3⟩ := h.te
  rw [← h2.len]
  exact te_len h1
theorem TW.has (h : TW w t n B k X D o D op vD wr) (g : Int) : Calls Try.prog 36 #[.pointer (some ⟨t, 0, none⟩), .int .i64 g] wr fun e w' => e = .returned (.bool (thasb D g)) ∧ w' = wr := by
  obtain ⟨Z, es, L, h1, h2, h3⟩ := h.te
  exact te_has h1 g _ (h2.has g)
theorem TW.due (h : TW w t n B k X D o D op vD wr) (x : Int) : Calls Try.prog 31 #[.pointer (some ⟨t, 0, none⟩), .int .i64 x] wr fun e w' => e = .returned (.bool (dueT D x)) ∧ Below wr.heap.size wr w' := by
  obtain ⟨Z, es, L, h1, h2, h3⟩ := h.te
  have hf : firstE D = L := h2.l
  exact te_due h1 x _ (by unfold dueT; rw [hf])
theorem Rd3.addr {w : World} {aa : Option Addr} {m c : Nat} {y : En} {l : List En} (h : Rd3 w (.slice aa m c) (y :: l)) : ∃ g off, aa = some ⟨g, off, none⟩ := by
  obtain ⟨a, c', e, _, _, hcl⟩ := h
  simp only [Value.slice.injEq] at e
  obtain ⟨rfl, _, rfl⟩ := e
  obtain ⟨g, off, rfl, _⟩ := hcl (by simp)
  exact ⟨g, off, rfl⟩
theorem Rd3.first {w : World} {g off m c : Nat} {y : En} {l : List En} (h : Rd3 w (.slice (some ⟨g, off, none⟩) m c) (y :: l)) : w.cell? ⟨g, off, none⟩ = some (.int .i64 y.1) := by
  obtain ⟨a, c', e, _, _, hcl⟩ := h
  simp only [Value.slice.injEq] at e
  obtain ⟨rfl, _, rfl⟩ := e
  obtain ⟨g', off', e2, _, hc⟩ := hcl (by simp)
  simp only [Option.some.injEq, Addr.mk.injEq, and_true] at e2
  obtain ⟨rfl, rfl⟩ := e2
  have h3 := (hc 0 (by simp)).1
  simpa [enAt] using h3
theorem te_new_c (m : Int) (n : Nat) (hN : clampT m = (n : Int)) (w : World) : Calls Try.prog 19 #[.int .i64 m] w fun e w' => e = .returned (.pointer (some ⟨w.heap.size + 1, 0, none⟩)) ∧
    Te (fun q => q < w.heap.size) w' (w.heap.size + 1) n (fun _ => []) [] 0 ∧ Below w.heap.size w w' := by
  refine (tnew_c m n hN w).mono ?_
  rintro e w2 ⟨rfl, hb', c, hp, h1, h2⟩
  have e0 : allE n (fun _ => ([] : List En)) = [] := allE_nil (fun _ _ => rfl)
  exact ⟨rfl, ⟨⟨hb', _, c, hp, _, by rw [show hasG [] = fun _ => false from funext fun a => by simp [hasG]]; exact h1⟩, by rw [e0]; simp [sortE], by simp⟩, h2⟩
theorem TW.doc2 {w4 : World} {o' k' : Nat} {Dp : List Tr} {op : Nat} {D' : List Tr} {vD' : Value} (h : TW w t n B k X D o Dp op vD wr) (hd : Dt w4 vD' D') (hb : Below wr.heap.size wr w4) (hq : ∀ q, vD'.ownBlock = some q → vD.ownBlock = some q ∨ (wr.heap.size ≤ q ∧ q < w4.heap.size))
    (hk : (D'.length ≤ k' ∧ Dp.length ≤ k') ∧ o' ≤ k' ∧ op ≤ k') : TW w t n w4.heap.size k' ((B, .cells #[.int .i64 n, vD, .int .u64 o] 29 (0, 0)) :: X) D' o' Dp op vD' (w4.alloc (.cells #[.int .i64 n, vD', .int .u64 o'] 29)) := by
  obtain ⟨Z, es, L, h1, h2, h3, h4, h5, h6, hx⟩ := h.te
  have hB := blk_lt h.bx
  have hs4 := hb.size
  have hbb := hb.trans (((bl_al w4 (.cells #[.int .i64 n, vD', .int .u64 o'] 29)).mono hb.size))
  refine ⟨⟨_, es, L, h1.grow hbb, h2, fun q hq => hq.1, fun q hq => ⟨by have := h.bl.size; simp; omega, .inl (h4 q hq)⟩, ⟨by simp, .inr hs4⟩, fun q hv => ?_, fun x hx2 => ?_⟩, Deep.blk_alloc_new _ _, hd.below (bl_al w4 _), hk, h.bl.trans (hbb.mono h.bl.size), by have := h.bl.size; omega, fun x hx2 => ?_⟩
  · rcases hq q hv with e | e
    · exact ⟨by have := h3 q (h6 q e); simp; omega, .inl (h6 q e)⟩
    · exact ⟨by simp; omega, .inr e.1⟩
  · rcases List.mem_cons.1 hx2 with rfl | hx2
    · exact ⟨by simp; omega, .inl h5⟩
    · exact ⟨by have := h3 _ (hx x hx2); simp; omega, .inl (hx x hx2)⟩
  · rcases List.mem_cons.1 hx2 with rfl | hx2
    · exact ⟨(hbb.block B hB).trans h.bx, by simp only; omega⟩
    · have := blk_ltO (h.xs x hx2).1
      exact ⟨(hbb.block _ this).trans (h.xs x hx2).1, by omega⟩
theorem TW.move {b n1 c1 o1 : Nat} {a1 : Option Addr} {Dp : List Tr} {op : Nat} {X' : List (Nat × Obj)} (h : TW w t n b k X D o Dp op vD wr) (hB : (B, Obj.cells #[.int .i64 n, .slice a1 n1 c1, .int .u64 o1] 29 (0, 0)) ∈ X) (hge : w.heap.size ≤ B) (hX : ∀ x ∈ X', x ∈ X ∧ x.1 ≠ B) :
    TW w t n B k X' D o Dp op vD (wr.setRow B #[.int .i64 n, vD, .int .u64 o]) := by
  obtain ⟨Z, es, L, h1, h2, h3, h4, h5, h6, hx⟩ := h.te
  refine ⟨⟨Z, es, L, h1.only (only_row wr B _) (hx _ hB), h2, fun q hq => by rw [row_size]; exact h3 q hq, h4, hx _ hB, h6, fun x hx2 => hx x (hX x hx2).1⟩, setRow_heap _ _ _ _ _ _ (h.xs _ hB).1, h.dt.keep (by rw [row_size]; exact Nat.le_refl _) (fun q hp hv _ => row_other _ _ _ _ (fun e => by
    subst e
    obtain ⟨a, c, rfl, _, x2⟩ := h.dt.hd
    obtain ⟨g, off, rfl, hg, hc⟩ := x2 hp
    simp [Value.ownBlock] at hv
    subst hv
    obtain ⟨q0, q1, q2, q3⟩ := hc 0 hp
    have hbx := (h.xs _ hB).1
    simp only at hbx
    simp only [World.cell?, hbx, Option.bind_some] at q0 q1 q3
    match off, q0, q1, q3 with
    | 0, _, q1, _ => simp at q1
    | 1, q0, _, _ => simp at q0
    | off + 2, _, q1, _ => simp at q1)), h.ln, row_below h.bl hge _, hge, fun x hx2 => ⟨(row_other _ _ _ _ (hX x hx2).2).trans (h.xs x (hX x hx2).1).1, (hX x hx2).2⟩⟩
end
end Go.Proofs.Ytaogpodncphpjaa
