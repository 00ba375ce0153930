/- The timers beside the document's: what stands between two deeds; each deed of both in one contract. -/
import Derived.Test.YtaogpodncphpjaaTimCq
namespace Go.Proofs.Ytaogpodncphpjaa
set_option linter.unusedVariables false
set_option linter.unusedSimpArgs false
open Go.RowKit Tk
/-- The timers' heaps hold what the document's row has. -/
structure TM (n : Nat) (es : Nat → List En) (L : List En) (D : List Tr) : Prop where
  lt : ∀ x ∈ D, 0 ≤ x.1 ∧ x.1 < n
  l : sortE (D.map Prod.snd) = L
  e : ∀ p : Nat, p < n → (es p).Perm (ofL p D)
theorem ofL_all (D : List Tr) : ofL (-1) D = D.map Prod.snd := by
  simp only [ofL]
  rw [List.filter_eq_self.2 (fun x _ => by simp)]
theorem TM.perm {n : Nat} {es : Nat → List En} {L : List En} {D : List Tr} (h : TM n es L D) : L.Perm (D.map Prod.snd) := by rw [← h.l]; exact sortE_perm _
theorem TM.all {n : Nat} {es : Nat → List En} {L : List En} {D : List Tr} (h : TM n es L D) : sortE (ofL (-1) D) = L := by rw [ofL_all]; exact h.l
theorem TM.len {n : Nat} {es : Nat → List En} {L : List En} {D : List Tr} (h : TM n es L D) : L.length = D.length := by rw [h.perm.length_eq]; simp
theorem TM.has {n : Nat} {es : Nat → List En} {L : List En} {D : List Tr} (h : TM n es L D) (g : Int) : hasG L g = thasb D g := by
  have e := (h.perm.map fun e => e.2.2).mem_iff (a := g)
  rw [List.map_map] at e
  simp only [hasG, thasb]
  exact decide_eq_decide.2 e
theorem TM.nil (n : Nat) : TM n (fun _ => []) [] [] := ⟨fun x hx => by simp at hx, by simp [sortE], fun p _ => by simp [ofL]⟩
theorem TM.of {n : Nat} {es : Nat → List En} {L : List En} {D : List Tr} (h : TM n es L D) (p : Nat) (hp : p < n) : sortE (es p) = sortE (ofL p D) := sort_perm (h.e p hp)
theorem TM.out {n : Nat} {es : Nat → List En} {L : List En} {D : List Tr} (h : TM n es L D) (p : Nat) (hp : n ≤ p) : sortE (ofL p D) = [] := by
  have : ofL p D = [] := by
    simp only [ofL, List.map_eq_nil_iff, List.filter_eq_nil_iff]
    intro x hx
    have := h.lt x hx
    have h1 : (x.1 == (p : Int)) = false := by simp; omega
    have h2 : decide ((p : Int) < 0) = false := decide_eq_false (by omega)
    simp [h1, h2]
  rw [this]; simp [sortE]
theorem TM.add {n p : Nat} {es : Nat → List En} {L T : List En} {D : List Tr} {y : En} (h : TM n es L D) (hp : p < n) (hT : T.Perm (y :: es p)) : TM n (updN es p T) (insF y L) (D ++ [((p : Int), y)]) := by
  refine ⟨fun x hx => ?_, ?_, fun q hq => ?_⟩
  · rcases List.mem_append.1 hx with hx | hx
    · exact h.lt x hx
    · simp at hx; subst hx; exact ⟨by simp only; omega, by simp only; omega⟩
  · rw [List.map_append, List.map_cons, List.map_nil, sort_snoc, h.l]
  · rw [ofL_app]
    by_cases hqp : q = p
    · subst hqp
      rw [updN_same]
      have : ((q : Int) == (q : Int) || decide ((q : Int) < 0)) = true := by simp
      rw [if_pos this]
      exact hT.trans (((h.e q hq).cons y).trans (List.perm_append_singleton y _).symm)
    · rw [updN_ne _ _ hqp]
      have h1 : ((p : Int) == (q : Int) || decide ((q : Int) < 0)) = false := by
        have a : ((p : Int) == (q : Int)) = false := by simp; omega
        have b : decide ((q : Int) < 0) = false := decide_eq_false (by omega)
        rw [a, b]; rfl
      rw [if_neg (by rw [h1]; simp), List.append_nil]
      exact h.e q hq
theorem butE_snd (y : En) (D : List Tr) : (butE y D).map Prod.snd = (D.map Prod.snd).filter (fun e => !(e == y)) := by
  rw [butE, List.filter_map]; rfl
theorem ofL_but (y : En) (p : Int) (D : List Tr) : ofL p (butE y D) = (ofL p D).filter (fun e => !(e == y)) := by
  simp only [ofL, butE, List.filter_map, List.filter_filter]
  congr 1
  refine List.filter_congr fun x _ => ?_
  simp only [Function.comp, Bool.and_comm]
theorem filter_ne_self {y : En} {l : List En} (h : y ∉ l) : l.filter (fun e => !(e == y)) = l := List.filter_eq_self.2 (fun x hx => by simp; exact fun e => h (e ▸ hx))
theorem nodup_of_map {α β : Type} {f : α → β} {l : List α} (h : (l.map f).Nodup) : l.Nodup := by
  unfold List.Nodup at h ⊢
  exact (List.pairwise_map.1 h).imp fun h e => h (by rw [e])
theorem map_inj_nodup {α β : Type} {f : α → β} : ∀ {l : List α}, (l.map f).Nodup → ∀ x ∈ l, ∀ y ∈ l, f x = f y → x = y
  | [], _, _, hx, _, _, _ => by cases hx
  | a :: l, h, x, hx, y, hy, e => by
    rw [List.map_cons, List.nodup_cons] at h
    rcases List.mem_cons.1 hx with rfl | hx'
    · rcases List.mem_cons.1 hy with rfl | hy'
      · rfl
      · exact absurd (List.mem_map.2 ⟨y, hy', e.symm⟩) h.1
    · rcases List.mem_cons.1 hy with rfl | hy'
      · exact absurd (List.mem_map.2 ⟨x, hx', e⟩) h.1
      · exact map_inj_nodup h.2 x hx' y hy' e
theorem TM.take {n m : Nat} {es : Nat → List En} {l T : List En} {D : List Tr} {y : En} (h : TM n es (y :: l) D) (hn : ((y :: l).map fun e => e.2.2).Nodup) (hs : (y :: l).Pairwise leE) (hm : m < n) (hT : (es m).Perm (y :: T)) : TM n (updN es m T) l (butE y D) := by
  have hnd := nodup_of_map hn
  have hyl : y ∉ l := (List.nodup_cons.1 hnd).1
  have hDn : (D.map fun x => x.2.2.2).Nodup := by
    have e := (h.perm.map fun e => e.2.2).nodup_iff.1 hn
    rwa [List.map_map] at e
  refine ⟨fun x hx => h.lt x (List.mem_filter.1 hx).1, ?_, fun q hq => ?_⟩
  · have p1 : ((butE y D).map Prod.snd).Perm l := by
      rw [butE_snd]
      refine (h.perm.symm.filter _).trans ?_
      rw [List.filter_cons, if_neg (by simp), filter_ne_self hyl]
    exact ord_unique _ _ ((sortE_perm _).trans p1) (sortE_ord _) (List.pairwise_cons.1 hs).2
  · rw [ofL_but]
    by_cases hqm : q = m
    · subst hqm
      rw [updN_same]
      have p1 := (hT.symm.trans (h.e q hq)).filter (fun e => !(e == y))
      have hnd2 : (ofL q D).Nodup := by
        have : ((D.filter fun x => x.1 == (q : Int) || decide ((q : Int) < 0)).map fun x => x.2.2.2).Nodup := (List.Sublist.map _ List.filter_sublist).nodup hDn
        refine nodup_of_map (f := fun e : En => e.2.2) ?_
        rw [ofL, List.map_map]
        exact this
      have hyT : y ∉ T := (List.nodup_cons.1 ((hT.symm.trans (h.e q hq)).nodup_iff.2 hnd2)).1
      rw [List.filter_cons, if_neg (by simp), filter_ne_self hyT] at p1
      exact p1
    · rw [updN_ne _ _ hqm, filter_ne_self]
      · exact h.e q hq
      · intro hy
        have hy1 : y ∈ ofL m D := (hT.symm.trans (h.e m hm)).mem_iff.1 (.head _)
        simp only [ofL, List.mem_map, List.mem_filter] at hy hy1
        obtain ⟨x1, ⟨a1, a2⟩, a3⟩ := hy
        obtain ⟨x2, ⟨b1, b2⟩, b3⟩ := hy1
        have := map_inj_nodup hDn x1 a1 x2 b1 (by rw [a3, b3])
        subst this
        have d1 : decide ((q : Int) < 0) = false := decide_eq_false (by omega)
        have d2 : decide ((m : Int) < 0) = false := decide_eq_false (by omega)
        rw [d1, Bool.or_false, beq_iff_eq] at a2
        rw [d2, Bool.or_false, beq_iff_eq] at b2
        omega
/-- What was made since is foreign too. -/
theorem Te.grow {Z : Nat → Prop} {w w' : World} {t n ad : Nat} {es : Nat → List En} {L : List En} (h : Te Z w t n es L ad) (hb : Below w.heap.size w w') : Te (fun q => q < w'.heap.size ∧ (Z q ∨ w.heap.size ≤ q)) w' t n es L ad := by
  obtain ⟨⟨hb', mb, c, hp, v, h1⟩, h2⟩ := h
  obtain ⟨l1, l2, l3⟩ := h1.lt
  obtain ⟨z1, z2, z3⟩ := h1.zf
  have h3 := h1.below hb
  refine ⟨⟨hb', mb, c, hp, v, ⟨h3.box, h3.row, h3.hc, h3.mp, h3.he, h3.ord, h3.fix, h3.hpx, h3.hpi, h3.own, ⟨?_, ?_, ?_⟩, ?_, ?_⟩⟩, h2⟩
  · rintro ⟨_, h | h⟩; · exact z1.1 h
    · omega
  · rintro ⟨_, h | h⟩; · exact z1.2.1 h
    · omega
  · rintro ⟨_, h | h⟩; · exact z1.2.2 h
    · omega
  · rintro i hi ⟨_, h | h⟩; · exact z2 i hi h
    · have := (h1.he i hi).lt; omega
  · rintro i hi q hq ⟨_, h | h⟩; · exact z3 i hi q hq h
    · have := own_lt0 (h1.he i hi) hq; omega
theorem only_row (w : World) (g : Nat) (cs : Array Value) : Only g g w (w.setRow g cs) := ⟨rfl, rfl, rfl, by rw [row_size]; exact Nat.le_refl _, fun k _ hk _ => row_other _ _ _ _ hk⟩
/-- What stands between two deeds: the document's row D (o were added), the program's Dp (op). -/
structure TW (w : World) (t n B k : Nat) (X : List (Nat × Obj)) (D : List Tr) (o : Nat) (Dp : List Tr) (op : Nat) (vD : Value) (wr : World) : Prop where
  te : ∃ Z es L, Te Z wr t n es L op ∧ TM n es L Dp ∧ (∀ q, Z q → q < wr.heap.size) ∧ (∀ q, q < w.heap.size → Z q) ∧ Z B ∧ (∀ q, vD.ownBlock = some q → Z q) ∧ ∀ x ∈ X, Z x.1
  bx : wr.heap[B]? = some (.cells #[.int .i64 n, vD, .int .u64 o] 29 (0, 0))
  dt : Dt wr vD D
  ln : (D.length ≤ k ∧ Dp.length ≤ k) ∧ o ≤ k ∧ op ≤ k
  bl : Below w.heap.size w wr
  ge : w.heap.size ≤ B
  xs : ∀ x ∈ X, wr.heap[x.1]? = some x.2 ∧ x.1 ≠ B
section
variable {w wr w4 w5 : World} {t n B k o op : Nat} {D D' Dp Dp' : List Tr} {vD vD' : Value} {X : List (Nat × Obj)}
theorem blk_ltO {w : World} {q : Nat} {ob : Obj} (h : w.heap[q]? = some ob) : q < w.heap.size := (Array.getElem?_eq_some_iff.1 h).1
theorem TW.below (h : TW w t n B k X D o Dp op vD wr) (hb : Below wr.heap.size wr w5) : TW w t n B k X D o Dp op vD w5 := by
  obtain ⟨Z, es, L, h1, h2, h3, h4, h5, h6, hx⟩ := h.te
  exact ⟨⟨Z, es, L, h1.below hb, h2, fun q hq => Nat.lt_of_lt_of_le (h3 q hq) hb.size, h4, h5, h6, hx⟩, (hb.block B (blk_lt h.bx)).trans h.bx, h.dt.below hb, h.ln, h.bl.trans (hb.mono h.bl.size), h.ge, fun x hx2 => ⟨(hb.block _ (blk_ltO (h.xs x hx2).1)).trans (h.xs x hx2).1, (h.xs x hx2).2⟩⟩
/-- A box of the law's own more; fewer. -/
theorem TW.box (h : TW w t n B k X D o Dp op vD wr) (ob : Obj) : TW w t n B k ((wr.heap.size, ob) :: X) D o Dp op vD (wr.alloc ob) := by
  obtain ⟨Z, es, L, h1, h2, h3, h4, h5, h6, hx⟩ := h.te
  have hb := bl_al wr ob
  have h9 := h.below hb
  have hB := blk_lt h.bx
  refine ⟨⟨_, es, L, h1.grow hb, h2, fun q hq => hq.1, fun q hq => ⟨by have := h.bl.size; simp; omega, .inl (h4 q hq)⟩, ⟨by simp; omega, .inl h5⟩, fun q hv => ⟨by have := h3 q (h6 q hv); simp; omega, .inl (h6 q hv)⟩, fun x hx2 => ?_⟩, h9.bx, h9.dt, h9.ln, h9.bl, h9.ge, fun x hx2 => ?_⟩
  · rcases List.mem_cons.1 hx2 with rfl | hx2
    · exact ⟨by simp, .inr (Nat.le_refl _)⟩
    · exact ⟨by have := h3 _ (hx x hx2); simp; omega, .inl (hx x hx2)⟩
  · rcases List.mem_cons.1 hx2 with rfl | hx2
    · exact ⟨Deep.blk_alloc_new _ _, by simp only; omega⟩
    · exact h9.xs x hx2
theorem TW.drop {x : Nat × Obj} (h : TW w t n B k (x :: X) D o Dp op vD wr) : TW w t n B k X D o Dp op vD wr := by
  obtain ⟨Z, es, L, h1, h2, h3, h4, h5, h6, hx⟩ := h.te
  exact ⟨⟨Z, es, L, h1, h2, h3, h4, h5, h6, fun x hx2 => hx x (.tail _ hx2)⟩, h.bx, h.dt, h.ln, h.bl, h.ge, fun x hx2 => h.xs x (.tail _ hx2)⟩
theorem TW.start {w w2 w3 w4 : World} {t n : Nat} (hb1 : Below w.heap.size w w2) (h : Te (fun q => q < w2.heap.size) w3 t n (fun _ => []) [] 0) (hb3 : Below w2.heap.size w2 w3) (hb4 : Below w3.heap.size w3 w4) :
    TW w t n w4.heap.size 0 [] [] 0 [] 0 (.slice none 0 0) (w4.alloc (.cells #[.int .i64 n, .slice none 0 0, .int .u64 0] 29)) := by
  have s1 := hb1.size
  have s3 := hb3.size
  have s4 := hb4.size
  have hb5 := hb4.trans ((bl_al w4 (.cells #[.int .i64 n, .slice none 0 0, .int .u64 0] 29)).mono s4)
  refine ⟨⟨_, _, _, h.grow hb5, TM.nil n, fun q hq => hq.1, fun q hq => ⟨by simp; omega, .inl (by omega)⟩, ⟨by simp, .inr s4⟩, fun q hv => by simp [Value.ownBlock] at hv, fun x hx => by simp at hx⟩, Deep.blk_alloc_new _ _, ⟨RdT.nil _, by simp⟩, by simp, (hb1.trans (hb3.mono s1)).trans (hb5.mono (by omega)), by omega, fun x hx => by simp at hx⟩
theorem TW.more (h : TW w t n B k X D o Dp op vD wr) : TW w t n B (k + 1) X D o Dp op vD wr := ⟨h.te, h.bx, h.dt, by have := h.ln; omega, h.bl, h.ge, h.xs⟩
theorem Dt.keep {w w' : World} {v : Value} {D : List Tr} (h : Dt w v D) (hs : w.heap.size ≤ w'.heap.size) (h1 : ∀ q, 0 < D.length → v.ownBlock = some q → q < w.heap.size → w'.heap[q]? = w.heap[q]?) : Dt w' v D := by
  obtain ⟨a, c, rfl, x1, x2⟩ := h.hd
  refine ⟨⟨a, c, rfl, x1, fun h0 => ?_⟩, h.ld⟩
  obtain ⟨g, off, rfl, hg, hc⟩ := x2 h0
  have hk := h1 g h0 rfl hg
  refine ⟨g, off, rfl, by omega, fun i hi => ?_⟩
  obtain ⟨q0, q1, q2, q3⟩ := hc i hi
  exact ⟨(World.cell?_of_block hk).trans q0, (World.cell?_of_block hk).trans q1, (World.cell?_of_block hk).trans q2, (World.cell?_of_block hk).trans q3⟩
/-- A deed of the document's, put into its box. -/
theorem TW.doc {o' k' : Nat} (h : TW w t n B k X D o Dp op vD wr) (hd : Dt w4 vD' D') (hb : Below wr.heap.size wr w4) (hq : ∀ q, vD'.ownBlock = some q → vD.ownBlock = some q ∨ (wr.heap.size ≤ q ∧ q < w4.heap.size))
    (hk : (D'.length ≤ k' ∧ Dp.length ≤ k') ∧ o' ≤ k' ∧ op ≤ k') (ob : Obj) : TW w t n B k' X D' o' Dp op vD' ((w4.alloc ob).setRow B #[.int .i64 n, vD', .int .u64 o']) := by
  obtain ⟨Z, es, L, h1, h2, h3, h4, h5, h6, hx⟩ := h.te
  have hB := blk_lt h.bx
  have hbb := hb.trans (((bl_al w4 ob).mono hb.size))
  have hs := hbb.size
  have g1 := (h1.grow hbb).only (only_row (w4.alloc ob) B #[.int .i64 n, vD', .int .u64 o']) ⟨by omega, .inl h5⟩
  have hs4 := hb.size
  have hz : ∀ q, vD'.ownBlock = some q → q < w4.heap.size ∧ (Z q ∨ wr.heap.size ≤ q) := fun q hv => by
    rcases hq q hv with e | e
    · exact ⟨by have := h3 q (h6 q e); omega, .inl (h6 q e)⟩
    · exact ⟨e.2, .inr e.1⟩
  refine ⟨⟨_, es, L, g1, h2, fun q hq => by rw [row_size]; exact hq.1, fun q hq => ⟨by have := h.bl.size; omega, .inl (h4 q hq)⟩, ⟨by omega, .inl h5⟩, fun q hv => ⟨by have := (hz q hv).1; simp; omega, (hz q hv).2⟩, fun x hx2 => ⟨by have := h3 _ (hx x hx2); omega, .inl (hx x hx2)⟩⟩, setRow_heap _ _ _ _ _ _ ((hbb.block B hB).trans h.bx), ?_, hk, row_below (h.bl.trans (hbb.mono h.bl.size)) h.ge _, h.ge, fun x hx2 => ⟨(row_other _ _ _ _ (h.xs x hx2).2).trans ((hbb.block _ (blk_ltO (h.xs x hx2).1)).trans (h.xs x hx2).1), (h.xs x hx2).2⟩⟩
  refine (hd.below (bl_al w4 ob)).keep (by rw [row_size]; exact Nat.le_refl _) (fun q hp hv _ => row_other _ _ _ _ (fun e => ?_))
  subst e
  obtain ⟨a, c, rfl, _, x2⟩ := hd.hd
  obtain ⟨g, off, rfl, hg, hc⟩ := x2 hp
  simp [Value.ownBlock] at hv
  subst hv
  obtain ⟨q0, q1, q2, q3⟩ := hc 0 hp
  have hbx := (hb.block g hB).trans h.bx
  obtain ⟨a', c', e', _⟩ := h.dt.hd
  rw [e'] at hbx
  simp only [World.cell?, hbx, Option.bind_some] at q0 q1 q3
  match off, q0, q1, q3 with
  | 0, _, q1, _ => simp at q1
  | 1, q0, _, _ => simp at q0
  | off + 2, _, q1, _ => simp at q1
/-- A deed of the program's. -/
theorem TW.prog {op' : Nat} (h : TW w t n B k X D o Dp op vD wr) (h' : ∀ Z es L, Te Z wr t n es L op → TM n es L Dp → (∀ q, Z q → q < wr.heap.size) → FrZ Z wr w5 ∧ ∃ es' L', Te Z w5 t n es' L' op' ∧ TM n es' L' Dp') (hk : (D.length ≤ k ∧ Dp'.length ≤ k) ∧ o ≤ k ∧ op' ≤ k) : TW w t n B k X D o Dp' op' vD w5 := by
  obtain ⟨Z, es, L, h1, h2, h3, h4, h5, h6, hx⟩ := h.te
  obtain ⟨hf, es', L', g1, g2⟩ := h' Z es L h1 h2 h3
  refine ⟨⟨Z, es', L', g1, g2, fun q hq => Nat.lt_of_lt_of_le (h3 q hq) hf.size, h4, h5, h6, hx⟩, (hf.block B (blk_lt h.bx) h5).trans h.bx, h.dt.keep hf.size (fun q hp hv hl => hf.block q hl (h6 q hv)), hk, h.bl.trans (hf.below (fun q hq => h4 q hq) h.bl.size), h.ge, fun x hx2 => ⟨(hf.block _ (blk_ltO (h.xs x hx2).1) (hx x hx2)).trans (h.xs x hx2).1, (h.xs x hx2).2⟩⟩
end
/-- What a deed of the document's answers. -/
def addE (n : Nat) (D : List Tr) (p g : Int) : Int := if p < 0 ∨ (n : Int) ≤ p ∨ g < 0 ∨ 4095 < g then 1 else if thasb D g then 8 else 0
def addD (n : Nat) (D : List Tr) (p g x : Int) (o : Nat) : List Tr := if addE n D p g = 0 then D ++ [(p, x, (o : Int), g)] else D
def addO (n : Nat) (D : List Tr) (p g : Int) (o : Nat) : Nat := if addE n D p g = 0 then o + 1 else o
theorem addD_len (n : Nat) (D : List Tr) (p g x : Int) (o : Nat) : (addD n D p g x o).length ≤ D.length + 1 := by unfold addD; split <;> simp
theorem addO_le (n : Nat) (D : List Tr) (p g : Int) (o : Nat) : addO n D p g o ≤ o + 1 := by unfold addO; split <;> omega
def firstE (D : List Tr) : List En := sortE (D.map Prod.snd)
def dueT (D : List Tr) (x : Int) : Bool := dueL (firstE D) x
def tkE (D : List Tr) (x : Int) : En := match firstE D with | [] => (0, 0, 0) | y :: _ => if y.1 ≤ x then y else (0, 0, 0)
def tkD (D : List Tr) (x : Int) : List Tr := if dueT D x then butE (tkE D x) D else D
theorem tkD_len (D : List Tr) (x : Int) : (tkD D x).length ≤ D.length := by unfold tkD; split; exact butE_len _ _; exact Nat.le_refl _
/-- Add, the program's. -/
theorem TW.padd {w wr : World} {t n B k o op : Nat} {D Dp : List Tr} {vD : Value} {X : List (Nat × Obj)} (h : TW w t n B k X D o Dp op vD wr) (hk : k < 1000) (hl : Dp.length < k) (hop : op < k) (p g x : Int) :
    Calls Try.prog 41 #[.pointer (some ⟨t, 0, none⟩), .int .i64 p, .int .i64 g, .int .i64 x] wr fun e w' => e = .returned (.int .i64 (addE n Dp p g)) ∧ TW w t n B k X D o (addD n Dp p g x op) (addO n Dp p g op) vD w' := by
  obtain ⟨Z, es, L, h1, h2, h3, h4, h5, h6, hx⟩ := h.te
  have hln := h.ln
  have post : ∀ w5 es' L' Dp' op', FrZ Z wr w5 → Te Z w5 t n es' L' op' → TM n es' L' Dp' → Dp'.length ≤ k → op' ≤ k → TW w t n B k X D o Dp' op' vD w5 := fun w5 es' L' Dp' op' hf g1 g2 g3 g4 =>
    ⟨⟨Z, es', L', g1, g2, fun q hq => Nat.lt_of_lt_of_le (h3 q hq) hf.size, h4, h5, h6, hx⟩, (hf.block B (blk_lt h.bx) h5).trans h.bx, h.dt.keep hf.size (fun q hp hv hl => hf.block q hl (h6 q hv)), ⟨⟨hln.1.1, g3⟩, hln.2.1, g4⟩, h.bl.trans (hf.below (fun q hq => h4 q hq) h.bl.size), h.ge, fun x hx2 => ⟨(hf.block _ (blk_ltO (h.xs x hx2).1) (hx x hx2)).trans (h.xs x hx2).1, (h.xs x hx2).2⟩⟩
  by_cases hb : p < 0 ∨ (n : Int) ≤ p ∨ g < 0 ∨ 4095 < g
  · have e1 : addE n Dp p g = 1 := if_pos hb
    refine (te_arg h1 p g x (by omega)).mono fun e w' hh => ?_
    obtain ⟨rfl, rfl⟩ := hh
    unfold addD addO
    rw [e1]
    exact ⟨rfl, h⟩
  · rcases hs : thasb Dp g with _ | _
    · have e1 : addE n Dp p g = 0 := by unfold addE; rw [if_neg hb, if_neg (by rw [hs]; simp)]
      refine (te_addI h1 h3 p g (by omega) (by omega) (by omega) (by omega) x (by rw [h2.has]; exact hs) (by rw [h2.len]; omega) (by omega)).mono fun e w' hh => ?_
      obtain ⟨rfl, hf, T, hT, hq⟩ := hh
      unfold addD addO
      rw [e1, if_pos rfl, if_pos rfl]
      have hp : ((p.toNat : Nat) : Int) = p := by omega
      have := h2.add (p := p.toNat) (by omega) hT
      rw [hp] at this
      exact ⟨rfl, post _ _ _ _ _ hf hq this (by simp; omega) (by omega)⟩
    · have e1 : addE n Dp p g = 8 := by unfold addE; rw [if_neg hb, if_pos hs]
      refine (te_sameI h1 p g (by omega) (by omega) (by omega) (by omega) x (by rw [h2.has]; exact hs)).mono fun e w' hh => ?_
      obtain ⟨rfl, rfl⟩ := hh
      unfold addD addO
      rw [e1]
      exact ⟨rfl, h⟩
theorem tkE_due {n : Nat} {es : Nat → List En} {D : List Tr} {y : En} {l : List En} (h : TM n es (y :: l) D) {x : Int} (hx : y.1 ≤ x) : tkE D x = y ∧ dueT D x = true ∧ tkD D x = butE y D := by
  have e : firstE D = y :: l := h.l
  have e1 : tkE D x = y := by unfold tkE; rw [e]; simp [hx]
  have e2 : dueT D x = true := by unfold dueT dueL; rw [e]; simp [hx]
  exact ⟨e1, e2, by unfold tkD; rw [e2, e1]; rfl⟩
theorem tkE_not {n : Nat} {es : Nat → List En} {D : List Tr} {L : List En} (h : TM n es L D) {x : Int} (hx : ∀ y l, L = y :: l → x < y.1) : tkE D x = (0, 0, 0) ∧ dueT D x = false ∧ tkD D x = D := by
  have e : firstE D = L := h.l
  have e1 : tkE D x = (0, 0, 0) := by
    unfold tkE; rw [e]
    rcases L with _ | ⟨y, l⟩
    · rfl
    · have := hx y l rfl
      simp only
      rw [if_neg (by omega)]
  have e2 : dueT D x = false := by
    unfold dueT dueL; rw [e]
    rcases L with _ | ⟨y, l⟩
    · rfl
    · have := hx y l rfl
      simp only
      exact decide_eq_false (by omega)
  exact ⟨e1, e2, by unfold tkD; rw [e2]; rfl⟩
/-- Take, the program's. -/
theorem TW.ptake {w wr : World} {t n B k o op : Nat} {D Dp : List Tr} {vD : Value} {X : List (Nat × Obj)} (h : TW w t n B k X D o Dp op vD wr) (x : Int) :
    Calls Try.prog 44 #[.pointer (some ⟨t, 0, none⟩), .int .i64 x] wr fun e w' => e = .returned (.tuple #[.agg #[.int .i64 (tkE Dp x).1, .int .u64 (tkE Dp x).2.1, .int .i64 (tkE Dp x).2.2], .bool (dueT Dp x)]) ∧ TW w t n B k X D o (tkD Dp x) op vD w' := by
  obtain ⟨Z, es, L, h1, h2, h3, h4, h5, h6, hx⟩ := h.te
  have hln := h.ln
  have post : ∀ w5 es' L' Dp' op', FrZ Z wr w5 → Te Z w5 t n es' L' op' → TM n es' L' Dp' → Dp'.length ≤ k → op' ≤ k → TW w t n B k X D o Dp' op' vD w5 := fun w5 es' L' Dp' op' hf g1 g2 g3 g4 =>
    ⟨⟨Z, es', L', g1, g2, fun q hq => Nat.lt_of_lt_of_le (h3 q hq) hf.size, h4, h5, h6, hx⟩, (hf.block B (blk_lt h.bx) h5).trans h.bx, h.dt.keep hf.size (fun q hp hv hl => hf.block q hl (h6 q hv)), ⟨⟨hln.1.1, g3⟩, hln.2.1, g4⟩, h.bl.trans (hf.below (fun q hq => h4 q hq) h.bl.size), h.ge, fun x hx2 => ⟨(hf.block _ (blk_ltO (h.xs x hx2).1) (hx x hx2)).trans (h.xs x hx2).1, (h.xs x hx2).2⟩⟩
  by_cases hd : ∃ y l, L = y :: l ∧ y.1 ≤ x
  · obtain ⟨⟨y1, y2, y3⟩, l, rfl, hy⟩ := hd
    obtain ⟨a1, a2, a3⟩ := tkE_due h2 hy
    refine (te_take h1 h3 x hy).mono fun e w' hh => ?_
    obtain ⟨rfl, hf, m, T, hm, hT, hq⟩ := hh
    rw [a1, a2, a3]
    have hlen := butE_len (y1, y2, y3) Dp
    exact ⟨rfl, post _ _ _ _ _ hf hq (h2.take h1.2.2 h1.sorted hm hT) (by omega) (by omega)⟩
  · have hn : ∀ y l, L = y :: l → x < y.1 := fun y l e => by
      have : ¬ y.1 ≤ x := fun q => hd ⟨y, l, e, q⟩
      omega
    obtain ⟨a1, a2, a3⟩ := tkE_not h2 hn
    refine (te_none h1 x hn).mono fun e w' hh => ?_
    obtain ⟨rfl, hb⟩ := hh
    rw [a1, a2, a3]
    exact ⟨rfl, h.below hb⟩
/-- A copy that goes on: Add and Take of it, whatever they answer. -/
def Cpy (wr : World) (c n : Nat) (y : World) : Prop := Below wr.heap.size wr y ∧ ∃ es L ad, Te (fun q => q < wr.heap.size) y c n es L ad ∧ L.length < 2000 ∧ ad < 2000
theorem TW.pcopy {w wr : World} {t n B k o op : Nat} {D Dp : List Tr} {vD : Value} {X : List (Nat × Obj)} (h : TW w t n B k X D o Dp op vD wr) (hk : k < 1000) (hn : 0 < n) (hn2 : n ≤ 64) :
    Calls Try.prog 51 #[.pointer (some ⟨t, 0, none⟩)] wr fun e w' => e = .returned (.pointer (some ⟨wr.heap.size + 1, 0, none⟩)) ∧ Cpy wr (wr.heap.size + 1) n w' := by
  obtain ⟨Z, es, L, ⟨⟨hb', mb, c, hp, v, h1⟩, h7⟩, h2, h3, h4, h5, h6, hx⟩ := h.te
  have hln := h.ln
  have hl := h2.len
  refine (tcopy h1 hn hn2).mono fun e w' hh => ?_
  obtain ⟨hb2, c2, hp2, v2, rfl, hq, hb⟩ := hh
  exact ⟨rfl, hb, es, L, op, ⟨⟨hb2, _, c2, hp2, v2, hq⟩, h7⟩, by omega, by omega⟩
theorem Cpy.add {wr y : World} {c n : Nat} (h : Cpy wr c n y) (hn : 0 < n) :
    Calls Try.prog 41 #[.pointer (some ⟨c, 0, none⟩), .int .i64 0, .int .i64 4095, .int .i64 0] y fun e w' => (∃ r, e = .returned (.int .i64 r)) ∧ Below wr.heap.size wr w' ∧ ∃ es L ad, Te (fun q => q < wr.heap.size) w' c n es L ad := by
  obtain ⟨hb, es, L, ad, h1, h2, h3⟩ := h
  have hz : ∀ q, q < wr.heap.size → q < y.heap.size := fun q hq => Nat.lt_of_lt_of_le hq hb.size
  rcases hs : hasG L 4095 with _ | _
  · refine (te_addI h1 hz 0 4095 (by omega) (by omega) (by omega) (by omega) 0 hs (by omega) (by omega)).mono fun e w' hh => ?_
    obtain ⟨rfl, hf, T, hT, hq⟩ := hh
    exact ⟨⟨_, rfl⟩, hb.trans (hf.below (fun _ hq => hq) hb.size), _, _, _, hq⟩
  · refine (te_sameI h1 0 4095 (by omega) (by omega) (by omega) (by omega) 0 hs).mono fun e w' hh => ?_
    obtain ⟨rfl, rfl⟩ := hh
    exact ⟨⟨_, rfl⟩, hb, _, _, _, h1⟩
theorem cpy_take {wr y : World} {c n ad : Nat} {es : Nat → List En} {L : List En} (hb : Below wr.heap.size wr y) (h1 : Te (fun q => q < wr.heap.size) y c n es L ad) (x : Int) :
    Calls Try.prog 44 #[.pointer (some ⟨c, 0, none⟩), .int .i64 x] y fun e w' => (∃ r1 r2 r3 r4, e = .returned (.tuple #[.agg #[.int .i64 r1, .int .u64 r2, .int .i64 r3], .bool r4])) ∧ Below wr.heap.size wr w' := by
  have hz : ∀ q, q < wr.heap.size → q < y.heap.size := fun q hq => Nat.lt_of_lt_of_le hq hb.size
  by_cases hd : ∃ y l, L = y :: l ∧ y.1 ≤ x
  · obtain ⟨⟨y1, y2, y3⟩, l, rfl, hy⟩ := hd
    refine (te_take h1 hz x hy).mono fun e w' hh => ?_
    obtain ⟨rfl, hf, _⟩ := hh
    exact ⟨⟨_, _, _, _, rfl⟩, hb.trans (hf.below (fun _ hq => hq) hb.size)⟩
  · refine (te_none h1 x (fun y l e => ?_)).mono fun e w' hh => ?_
    · have : ¬ y.1 ≤ x := fun q => hd ⟨y, l, e, q⟩
      omega
    · obtain ⟨rfl, hb2⟩ := hh
      exact ⟨⟨_, _, _, _, rfl⟩, hb.trans (hb2.mono hb.size)⟩
end Go.Proofs.Ytaogpodncphpjaa
