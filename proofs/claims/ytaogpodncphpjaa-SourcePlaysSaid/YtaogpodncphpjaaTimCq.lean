/- timer.Timers.Copy. -/
import Derived.Test.YtaogpodncphpjaaTimCp
import Derived.Deep.RegionLaw
import Derived.Deep.AppendLies
namespace Go.Proofs.Ytaogpodncphpjaa
set_option linter.unusedVariables false
set_option linter.unusedSimpArgs false
open Go.RowKit Tk Go.MapKept
theorem MapI.size_eq {w w' : World} {b b' n n' : Nat} {q : IntKind} {g : Int → Option Value} (h : MapI w b q g n) (h' : MapI w' b' q g n') : n = n' := by
  obtain ⟨es, cl, _, hs, hk, rfl, hg⟩ := h.h
  obtain ⟨es', cl', _, hs', hk', rfl, hg'⟩ := h'.h
  have key : ∀ {x : MapEntry}, IsKey (.int q) x.key → ∃ a, x.key = .int q a := fun {x} this => by
    cases hkx : x.key <;> simp [hkx, IsKey] at this ⊢
    exact this
  have hp : (es.toList.map (·.key)).Perm (es'.toList.map (·.key)) := by
    rw [List.perm_ext_iff_of_nodup hs.2.2 hs'.2.2]
    intro k
    simp only [List.mem_map]
    constructor
    · rintro ⟨x, hx, rfl⟩
      obtain ⟨a, ha⟩ := key (hk x hx)
      obtain ⟨y, hy, hya, _⟩ := (hg' a x.val).1 ((hg a x.val).2 ⟨x, hx, ha, rfl⟩)
      exact ⟨y, hy, hya.trans ha.symm⟩
    · rintro ⟨x, hx, rfl⟩
      obtain ⟨a, ha⟩ := key (hk' x hx)
      obtain ⟨y, hy, hya, _⟩ := (hg a x.val).1 ((hg' a x.val).2 ⟨x, hx, ha, rfl⟩)
      exact ⟨y, hy, hya.trans ha.symm⟩
  simpa using hp.length_eq
theorem ownsRow_0 {w : World} {b sz n : Nat} {t : TypeId} {v : Value} {xs : List Value} (h : w.ownsRow b t sz v n xs) : w.ownsRow 0 t sz v n xs := by
  obtain ⟨h0, h1 | ⟨q, cap, cur, h1, h2, h3⟩⟩ := h
  · exact ⟨h0, .inl h1⟩
  · exact ⟨h0, .inr ⟨q, cap, cur, h1, Nat.zero_le _, h3⟩⟩
/-- So many heaps are copied. -/
structure Cw (w : World) (es : Nat → List En) (ad : Nat) (hp : Nat → Nat) (v : Nat → Value) (vr : Value) (i : Nat) (wr : World) : Prop where
  bl : Below w.heap.size w wr
  box : wr.heap[w.heap.size + 1]? = some (.cells #[vr, .map (some w.heap.size), .int .u64 ad] 96 (0, 0))
  mp : MapI wr w.heap.size .i64 (fun _ => none) 0
  own : wr.ownsRow (w.heap.size + 2) 97 1 vr i ((List.range i).map fun j => .pointer (some ⟨hp j, 0, none⟩))
  hs : ∀ j, j < i → Hp wr 0 (hp j) (v j) (es j) ∧ w.heap.size + 2 ≤ hp j ∧ vr.ownBlock ≠ some (hp j)
  hv : ∀ j, j < i → ∀ q, (v j).ownBlock = some q → w.heap.size + 2 ≤ q ∧ vr.ownBlock ≠ some q ∧ (∀ l, l < i → q ≠ hp l) ∧ ∀ l, l < i → l ≠ j → (v l).ownBlock ≠ some q
  ne : ∀ j l, j < i → l < i → hp j = hp l → j = l
section
variable {w wr y w4 : World} {es : Nat → List En} {ad : Nat} {hp : Nat → Nat} {v : Nat → Value} {vr : Value} {i : Nat}
theorem Cw.drew (h : Cw w es ad hp v vr i wr) : Cw w es ad hp v vr i wr.drew := ⟨h.bl.trans (bl_drw wr _), h.box, h.mp.kept rfl, h.own, fun j hj => ⟨(h.hs j hj).1.kept rfl (fun _ _ => rfl), (h.hs j hj).2⟩, h.hv, h.ne⟩
theorem Cw.start (w : World) (es : Nat → List En) (ad : Nat) (hp : Nat → Nat) (v : Nat → Value) : Cw w es ad hp v (.slice none 0 0) 0 ((w.alloc (.map #[] 0)).alloc (.cells #[.slice none 0 0, .map (some w.heap.size), .int .u64 ad] 96)) := by
  have h1 := Deep.blk_alloc_new (w.alloc (.map #[] 0)) (.cells #[.slice none 0 0, .map (some w.heap.size), .int .u64 ad] 96)
  rw [World.size_alloc] at h1
  exact ⟨(bl_al w _).trans ((bl_al _ _).mono (by simp)), h1, (MapI.new w .i64).kept (Below.heap_alloc _ _ _ (by simp)), ⟨by simp, .inl ⟨rfl, rfl⟩⟩, fun j hj => by omega, fun j hj => by omega, fun j l hj => by omega⟩
theorem Cw.lt (h : Cw w es ad hp v vr i wr) : w.heap.size + 1 < wr.heap.size := blk_lt h.box
theorem Cw.keep {Q : Nat} (h : Cw w es ad hp v vr i wr) (hb : Below wr.heap.size wr y) (hgrow : (y.alloc (.cells #[.pointer (some ⟨Q, 0, none⟩)] 97)).grownBy w4 vr.ownBlock) :
    w4.cell? ⟨w.heap.size + 1, 0, none⟩ = some vr ∧ w4.frozen? ⟨w.heap.size + 1, 0, none⟩ = false := by
  have lt := h.lt
  have sy := hb.size
  have hbx : w4.heap[w.heap.size + 1]? = _ := (hgrow.block _ (by simp; omega) (fun e => by have := own_ge h.own _ e.symm; omega)).trans ((Below.heap_alloc _ _ _ (by omega)).trans ((hb.block _ lt).trans h.box))
  exact ⟨blk_cell hbx rfl, blk_free hbx⟩
theorem Cw.callK {T2 : Nat} (h : Cw w es ad hp v vr i wr) (hT : T2 = w.heap.size + 1) (hb : Below wr.drew.heap.size wr.drew y) (Q : Nat) :
    y.cell? ⟨T2, 0, none⟩ = some vr ∧ (y.alloc (.cells #[.pointer (some ⟨Q, 0, none⟩)] 97)).cell? ⟨T2, 0, none⟩ = some vr := by
  subst hT
  have e1 := (hb.block _ h.lt).trans h.box
  exact ⟨blk_cell e1 rfl, blk_cell ((Below.heap_alloc _ _ _ (blk_lt e1)).trans e1) rfl⟩
theorem Cw.callO (h : Cw w es ad hp v vr i wr) (hb : Below wr.drew.heap.size wr.drew y) (Q : Nat) :
    (y.alloc (.cells #[.pointer (some ⟨Q, 0, none⟩)] 97)).ownsRow (w.heap.size + 2) 97 1 vr i ((List.range i).map fun j => .pointer (some ⟨hp j, 0, none⟩)) := by
  refine World.ownsRow.alloc ?_ _
  obtain ⟨h0, h1 | ⟨q, cap, cur, h1, h2, h3, h4⟩⟩ := h.own
  · exact ⟨h0, .inl h1⟩
  · exact ⟨h0, .inr ⟨q, cap, cur, h1, h2, (hb.block q (blk_lt h3)).trans h3, h4⟩⟩
theorem Cw.callB (h : Cw w es ad hp v vr i wr) (hb : Below wr.drew.heap.size wr.drew y) (Q : Nat) : w.heap.size + 2 ≤ (y.alloc (.cells #[.pointer (some ⟨Q, 0, none⟩)] 97)).heap.size := by
  have h1 := h.lt
  have h2 : wr.heap.size ≤ y.heap.size := hb.size
  simp; omega
theorem Cw.step {gg cap Q : Nat} {v' : Value} (h : Cw w es ad hp v vr i wr) (hH : Hp y wr.heap.size Q v' (es i)) (hQ : wr.heap.size ≤ Q) (hb : Below wr.heap.size wr y)
    (hown : w4.ownsRow (w.heap.size + 2) 97 1 (.slice (some ⟨gg, 0, none⟩) (i + 1) cap) (i + 1) (((List.range i).map fun j => Value.pointer (some ⟨hp j, 0, none⟩)) ++ [.pointer (some ⟨Q, 0, none⟩)]))
    (hgrow : (y.alloc (.cells #[.pointer (some ⟨Q, 0, none⟩)] 97)).grownBy w4 vr.ownBlock)
    (hat : vr.ownBlock = some gg ∨ gg = y.heap.size + 1) (hlt : gg < w4.heap.size) :
    Cw w es ad (updN hp i Q) (updN v i v') (.slice (some ⟨gg, 0, none⟩) (i + 1) cap) (i + 1) (w4.setCell ⟨w.heap.size + 1, 0, none⟩ (.slice (some ⟨gg, 0, none⟩) (i + 1) cap)) := by
  have lt := h.lt
  have st : ∀ x, x ≠ w.heap.size + 1 → (w4.setCell ⟨w.heap.size + 1, 0, none⟩ (.slice (some ⟨gg, 0, none⟩) (i + 1) cap)).heap[x]? = w4.heap[x]? := fun x hx => Below.heap_setCell _ _ _ _ hx
  have ss : (w4.setCell ⟨w.heap.size + 1, 0, none⟩ (.slice (some ⟨gg, 0, none⟩) (i + 1) cap)).heap.size = w4.heap.size := by simp [World.setCell]
  have s4 := hgrow.size
  simp only [World.size_alloc] at s4
  have sy := hb.size
  have vl := own_ge h.own
  have old : ∀ x, x < wr.heap.size → vr.ownBlock ≠ some x → w4.heap[x]? = wr.heap[x]? := fun x hx hne => by
    rw [hgrow.block x (by simp; omega) (fun e => hne e.symm), Below.heap_alloc _ _ _ (by omega), hb.block x hx]
  have new : ∀ x, wr.heap.size ≤ x → x < y.heap.size → w4.heap[x]? = y.heap[x]? := fun x hx hx2 => by
    rw [hgrow.block x (by simp; omega) (fun e => by have := vl _ e.symm; omega), Below.heap_alloc _ _ _ hx2]
  have notT : ∀ k, k < w.heap.size + 2 → vr.ownBlock ≠ some k := fun k hk e => by have := vl _ e; omega
  have hpl : ∀ j, j < i → hp j < wr.heap.size := fun j hj => (h.hs j hj).1.lt
  have vjl : ∀ j, j < i → ∀ q, (v j).ownBlock = some q → q < wr.heap.size := fun j hj q e => own_lt0 (h.hs j hj).1 e
  have hQl := hH.lt
  have v'l := hH.own_lt
  have ggn : ∀ q, q < y.heap.size → vr.ownBlock ≠ some q → gg ≠ q := fun q hq hne e => by
    subst e
    rcases hat with h1 | h1
    · exact hne h1
    · omega
  have ggo : ∀ q, wr.heap.size ≤ q → q < y.heap.size → gg ≠ q := fun q h1 h2 => ggn q h2 (fun e => by have := vl _ e; omega)
  refine ⟨⟨hgrow.os.trans (hb.os.trans h.bl.os), hgrow.tape.trans (hb.tape.trans h.bl.tape), hgrow.output.trans (hb.output.trans h.bl.output), by rw [ss]; omega, fun k hk => ?_⟩, ?_, ?_, ?_, fun j hj => ?_, fun j hj q e => ?_, fun j l hj hl e => ?_⟩
  · rw [st k (by omega), old k (by omega) (notT k (by omega))]
    exact h.bl.block k hk
  · have hb2 := (old (w.heap.size + 1) lt (notT _ (by omega))).trans h.box
    simp [World.setCell, Array.getElem?_modify, hb2]
  · exact h.mp.kept ((st _ (by omega)).trans (old _ (by omega) (notT _ (by omega))))
  · refine ⟨by simp, ?_⟩
    rcases hown.2 with ⟨e, _⟩ | ⟨g, c2, cur, e, hbg, hgg, r1, r2, r3, r4⟩
    · cases e
    · have hg2 : gg = g := by injection e with e1 e2 e3; injection e1 with e1; injection e1
      subst hg2
      refine .inr ⟨gg, c2, cur, e, hbg, (st gg (by omega)).trans hgg, r1, r2, r3, r4.trans ?_⟩
      rw [List.range_succ, List.map_append]
      congr 1
      · refine List.map_congr_left fun j hj => ?_
        rw [updN_ne _ _ (by have := List.mem_range.1 hj; omega)]
      · simp [updN_same]
  · by_cases hji : j = i
    · subst hji
      rw [updN_same, updN_same]
      refine ⟨⟨((st _ (by omega)).trans (new _ hQ hQl)).trans hH.st, ownsRow_0 (hH.kept ((st _ (by omega)).trans (new _ hQ hQl)) (fun q e => (st _ (by have := v'l q e; omega)).trans (new _ (v'l q e).1 (v'l q e).2))).own, hH.ne, hH.len⟩, by omega, fun e => ?_⟩
      simp only [Value.ownBlock, Option.some.injEq] at e
      exact ggo Q hQ hQl e
    · have hj2 : j < i := by omega
      rw [updN_ne _ _ hji, updN_ne _ _ hji]
      obtain ⟨a1, a2, a3⟩ := h.hs j hj2
      refine ⟨a1.kept ((st _ (by omega)).trans (old _ (hpl j hj2) a3)) (fun q e => (st _ (by have := (h.hv j hj2 q e).1; omega)).trans (old _ (vjl j hj2 q e) (h.hv j hj2 q e).2.1)), a2, fun e => ?_⟩
      simp only [Value.ownBlock, Option.some.injEq] at e
      exact ggn _ (by have := hpl j hj2; omega) a3 e
  · by_cases hji : j = i
    · subst hji
      rw [updN_same] at e
      have hq := v'l q e
      refine ⟨by omega, fun e2 => ?_, fun l hl => ?_, fun l hl hlj => ?_⟩
      · simp only [Value.ownBlock, Option.some.injEq] at e2
        exact ggo q hq.1 hq.2 e2
      · by_cases hli : l = j
        · subst hli; rw [updN_same]; exact fun e2 => hH.ne (by rw [e, e2])
        · rw [updN_ne _ _ hli]; have := hpl l (by omega); omega
      · rw [updN_ne _ _ hlj]
        exact fun e2 => by have := vjl l (by omega) q e2; omega
    · have hj2 : j < i := by omega
      rw [updN_ne _ _ hji] at e
      obtain ⟨a1, a2, a3, a4⟩ := h.hv j hj2 q e
      have hq := vjl j hj2 q e
      refine ⟨a1, fun e2 => ?_, fun l hl => ?_, fun l hl hlj => ?_⟩
      · simp only [Value.ownBlock, Option.some.injEq] at e2
        exact ggn q (by omega) a2 e2
      · by_cases hli : l = i
        · subst hli; rw [updN_same]; omega
        · rw [updN_ne _ _ hli]; exact a3 l (by omega)
      · by_cases hli : l = i
        · subst hli; rw [updN_same]; exact fun e2 => by have := v'l q e2; omega
        · rw [updN_ne _ _ hli]; exact a4 l (by omega) hlj
  · by_cases hji : j = i <;> by_cases hli : l = i
    · omega
    · subst hji; rw [updN_same, updN_ne _ _ hli] at e; have := hpl l (by omega); omega
    · subst hli; rw [updN_same, updN_ne _ _ hji] at e; have := hpl j (by omega); omega
    · rw [updN_ne _ _ hji, updN_ne _ _ hli] at e; exact h.ne j l (by omega) (by omega) e
/-- The map is copied so far. -/
structure Cm (w w5 : World) (mb r : Nat) (g : Int → Option Value) (k : Nat) (left : Int → Bool) (cnt : Nat) (wr : World) : Prop where
  rg : RgI wr mb r .i64 g k left cnt
  mp : ∃ g2 k2, MapI wr w.heap.size .i64 g2 k2 ∧ ∀ a, g2 a = if left a then none else g a
  bl : Below w.heap.size w5 wr
  kp : ∀ q, q < w5.heap.size → q ≠ w.heap.size → q ≠ r → wr.heap[q]? = w5.heap[q]?
  sz : w5.heap.size ≤ wr.heap.size
theorem Cm.next {w5 : World} {mb r k cnt : Nat} {g : Int → Option Value} {left : Int → Bool} (h : Cm w w5 mb r g k left cnt wr) (hg : ∀ a, g a = some (.bool true) ∨ g a = none) (hr : w.heap.size < r) (hm : mb < w.heap.size) :
    (cnt = 0 ∧ (∀ a, left a = false) ∧ ∀ ty, (Instr.next (.pointer (some ⟨r, 0, none⟩)) false ty).run Try.prog wr = .ok (.tuple #[.bool false]) wr) ∨
    ∃ (a : Int) (w1 w2 : World) (cnt' : Nat), (∀ ty, (Instr.next (.pointer (some ⟨r, 0, none⟩)) false ty).run Try.prog wr = .ok (.tuple #[.bool true, .int .i64 a, .bool true]) w1) ∧ (Instr.entry (.pointer (some ⟨r, 0, none⟩))).run Try.prog w1 = .ok (.tuple #[.int .i64 a, .bool true]) w1 ∧
      (∀ q, q ≠ r → q < wr.heap.size → w1.heap[q]? = wr.heap[q]?) ∧ (Instr.mapUpdate 93 (.map (some w.heap.size)) (.int .i64 a) (.bool true)).run Try.prog w1 = .ok () w2 ∧ Cm w w5 mb r g k (strike left a) cnt' w2 ∧ cnt' < cnt := by
  obtain ⟨g2, k2, m2, hg2⟩ := h.mp
  have l2 := m2.lt
  have lr := h.rg.lt
  rcases h.rg.next (P := Try.prog) with ⟨e0, e1, e2⟩ | ⟨a, v, w1, cnt', h1, h2, h3, h4, h5, h6, h7⟩
  · exact .inl ⟨e0, e1, e2⟩
  · have hv : v = .bool true := by
      rcases hg a with e | e
      · rw [e] at h2; exact (Option.some.inj h2).symm
      · rw [e] at h2; cases h2
    subst hv
    have k1 : ∀ q, q ≠ r → q < wr.heap.size → w1.heap[q]? = wr.heap[q]? := fun q hq hl => h6.block q hl hq hq
    have m1 := m2.kept (k1 _ (by omega) l2)
    obtain ⟨w2, hrun, m3, o3⟩ := m1.store undT undTI a (.bool true)
    have s1 := h6.size
    have k3 : ∀ q, q ≠ w.heap.size → q < w1.heap.size → w2.heap[q]? = w1.heap[q]? := fun q hq hl => o3.block q hl hq hq
    refine .inr ⟨a, w1, w2, cnt', h3, h7, k1, hrun, ⟨h4.kept (k3 _ (by omega) h4.lt.1) (k3 _ (by omega) h4.lt.2.1), ⟨_, _, m3, fun x => ?_⟩, ?_, fun q hq h8 h9 => ?_, ?_⟩, h5⟩
    · simp only [updG, strike]
      by_cases hx : x = a
      · subst hx; simp [h2]
      · have : (x == a) = false := by simpa using hx
        simp only [if_neg hx, this, Bool.not_false, Bool.and_true]
        exact hg2 x
    · refine ⟨o3.os.trans (h6.os.trans h.bl.os), o3.tape.trans (h6.tape.trans h.bl.tape), o3.output.trans (h6.output.trans h.bl.output), by have := h.bl.size; have := o3.size; omega, fun q hq => ?_⟩
      rw [k3 q (by omega) (by have := h.bl.size; have := h.sz; omega), k1 q (by omega) (by omega), h.bl.block q hq]
    · rw [k3 q h8 (by have := h.sz; omega), k1 q h9 (by have := h.sz; omega), h.kp q hq h8 h9]
    · have := h.sz; have := o3.size; omega
variable {Z : Nat → Prop} {t hb mb n c : Nat} {inn : Int → Bool} {k : Nat}
/-- All is copied. -/
theorem Cw.fin {wB : World} {o : Obj} {r cnt : Nat} {left : Int → Bool} {g : Int → Option Value} (h : Cw w es ad hp v vr n wB) (hn : 0 < n) (hr : r = wB.heap.size) (hc : Cm w (wB.alloc o) mb r g k left cnt wr) (hm : MapI w mb .i64 g k) (h0 : ∀ a, left a = false)
    (hi : ∀ a, (g a = some (.bool true) ∧ inn a = true) ∨ (g a = none ∧ inn a = false)) (hord : ∀ i, i < n → Ord (es i)) :
    ∃ gg c, Tq (fun q => q < w.heap.size) wr (w.heap.size + 1) gg w.heap.size n c hp v es inn k ad ∧ Below w.heap.size w wr := by
  have lt := h.lt
  have kp : ∀ q, q < wB.heap.size → q ≠ w.heap.size → wr.heap[q]? = wB.heap[q]? := fun q h1 h2 => (hc.kp q (by simp; omega) h2 (by omega)).trans (Below.heap_alloc _ _ _ h1)
  have hpl : ∀ j, j < n → hp j < wB.heap.size := fun j hj => (h.hs j hj).1.lt
  have vjl : ∀ j, j < n → ∀ q, (v j).ownBlock = some q → q < wB.heap.size := fun j hj q e => own_lt0 (h.hs j hj).1 e
  rcases h.own.2 with ⟨_, e⟩ | ⟨gg, c, cur, rfl, hbg, hgg, r1, r2, r3, r4⟩
  · omega
  have hgl : gg < wB.heap.size := (Array.getElem?_eq_some_iff.1 hgg).1
  have hpg : ∀ j, j < n → hp j ≠ gg := fun j hj e => (h.hs j hj).2.2 (by rw [e]; rfl)
  have hsz := hc.sz
  simp only [World.size_alloc] at hsz
  refine ⟨gg, c, ⟨(kp _ lt (by omega)).trans h.box, ⟨by omega, fun j hj => ?_⟩, ⟨r1, r2⟩, ?_, fun j hj => (h.hs j hj).1.kept (kp _ (hpl j hj) (by have := (h.hs j hj).2.1; omega)) (fun q e => kp q (vjl j hj q e) (by have := (h.hv j hj q e).1; omega)), hord, by omega, fun j hj => ?_, h.ne, fun j hj q e => ?_, ⟨by omega, fun j hj => ?_, fun j hj q e => ?_⟩⟩, h.bl.trans ((bl_al wB o).mono h.bl.size |>.trans hc.bl)⟩
  · have := h.own.cells (g := gg) rfl j (.pointer (some ⟨hp j, 0, none⟩)) (by simp [hj])
    have e1 : wB.cell? ⟨gg, j, none⟩ = some (.pointer (some ⟨hp j, 0, none⟩)) := by
      by_cases h0 : j = 0
      · subst h0; simpa [Addr.add] using this
      · simpa [Addr.add, h0] using this
    exact (World.cell?_of_block (kp gg hgl (by omega))).trans e1
  · obtain ⟨g2, k2, m2, hg2⟩ := hc.mp
    have e : g2 = g := funext fun a => by rw [hg2 a, h0 a]; simp
    subst e
    have := m2.size_eq hm
    subst this
    exact ⟨_, m2, hi⟩
  · have := (h.hs j hj).2.1
    exact ⟨by omega, hpg j hj, by omega⟩
  · obtain ⟨a1, a2, a3, a4⟩ := h.hv j hj q e
    exact ⟨⟨by omega, fun e2 => a2 (by rw [e2]; rfl), by omega⟩, a3, a4⟩
  · have := (h.hs j hj).2.1; omega
  · have := (h.hv j hj q e).1; omega
theorem run_makeMapN (x : Nat) (w : World) : (Instr.makeMap 93 (some (.int .i64 x))).run Try.prog w = .ok (.map (some w.heap.size)) (w.alloc (.map #[] 0)) := by
  simp [Instr.makeMap, run_underlying undT, asInt, asIntOf, Result.andThen]
/-- A call of a region that draws. -/
theorem step_callR {P : Program} {ops : Array Oper} {o : Oper} {a : Act} {w : World} {K : Act → World → Prop} {Q : Exit → Act → World → Prop} {E : Prop} (hgd : o.guard = none)
    (f : FuncId) (args : Array Value) (hrun : (execOp a.eval o).run P w = .ok (.enter f args) w) {R : Ending → World → Prop} (hc : Calls P f args w R) (h : ∀ e y, R e y → ∃ v, e = .returned v ∧ K (a.put o.dst v) y) :
    if Region.wanted o (yielded ops a.tmps) = true then Oper.wp P o a w K Q else E := by
  have hw : Region.wanted o (yielded ops a.tmps) = true := by simp [Region.wanted, hgd]
  rw [if_pos hw]
  unfold Oper.wp
  rw [hrun, Oper.upon_enter]
  refine hc.mono fun e y hh => ?_
  obtain ⟨v, rfl, hv⟩ := h e y hh
  exact hv
def CyPost (Z : Nat → Prop) (w : World) (es : Nat → List En) (inn : Int → Bool) (n k ad : Nat) (e : Ending) (w' : World) : Prop :=
  ∃ hb2 c2 hp2 v2, e = .returned (.pointer (some ⟨w.heap.size + 1, 0, none⟩)) ∧ Tq (fun q => q < w.heap.size) w' (w.heap.size + 1) hb2 w.heap.size n c2 hp2 v2 es inn k ad ∧ Below w.heap.size w w'
set_option maxHeartbeats 8000000 in
theorem tcopy (h : Tq Z w t hb mb n c hp v es inn k ad) (hn : 0 < n) (hn2 : n ≤ 64) :
    Calls Try.prog 51 #[.pointer (some ⟨t, 0, none⟩)] w (CyPost Z w es inn n k ad) := by
  have c0 : w.cell? ⟨t, 0, none⟩ = some (.slice (some ⟨hb, 0, none⟩) n c) := cell_ent h.box rfl
  have c1 : w.cell? ⟨t, 1, none⟩ = some (.map (some mb)) := cell_ent h.box rfl
  have c2 : w.cell? ⟨t, 2, none⟩ = some (.int .u64 ad) := cell_ent h.box rfl
  have hb0 := Below.heap_alloc w (.map #[] 0) t h.lt.1
  have x2 : (w.alloc (.map #[] 0)).cell? ⟨t, 2, none⟩ = some (.int .u64 ad) := (World.cell?_of_block hb0).trans c2
  have LEN := fun (ty : TypeId) => h.len ty
  have LEN1 := fun (ty : TypeId) => (h.below (bl_drw w _)).len ty
  have MK := run_makeMapN k
  have S0 := hid (Cw.start w es ad hp v)
  have TQ := hid h
  clear h hb0
  go_enter Try.func51, Try.ntmps51
  go_wp2_with fail
  go_region
  have S1 := hid S0.out.drew
  obtain ⟨T2, hT⟩ : ∃ x, x = w.heap.size + 1 := ⟨_, rfl⟩
  have HT := hid hT
  rw [← hT]
  clear hT S0 LEN LEN1 MK x2
  have d0 : ((w.alloc (.map #[] 0)).alloc (.cells #[.slice none 0 0, .map (some w.heap.size), .int .u64 ad] 96)).drew.cell? ⟨t, 0, none⟩ = some (.slice (some ⟨hb, 0, none⟩) n c) := (World.cell?_of_block (S1.out.bl.block t TQ.out.lt.1)).trans c0
  have hcc := TQ.out.hc
  unfold maxLen at hcc
  go_wp2_with fail
  go_loopw [5, 24] (fun x5 x wr => ∃ (i : Nat) (hp2 : Nat → Nat) (v2 : Nat → Value) (vr : Value), i ≤ n ∧ x = .int .i64 i ∧ Hid (Cw w es ad hp2 v2 vr i wr)) (fun _ x _ => n - (intOf x).toNat)
  case atStart => exact ⟨0, _, _, _, Nat.zero_le _, rfl, S1⟩
  case round =>
    clear S1 d0
    obtain ⟨i, hp2, v2, vr, hi, rfl, F⟩ := hrel
    have TR := hid (TQ.out.below F.out.bl)
    by_cases hlt : i < n
    · obtain ⟨i0, h0, hz0, hz1, hz2⟩ := info_parts infoHp2
      have HI := hid (And.intro h0 (And.intro hz0 (And.intro hz1 hz2)))
      have r0 := TR.out.row.2 i hlt
      have CP := hid (hcopy wr.drew 0 (hp i) (v i) (es i) ((TR.out.he i hlt).kept rfl (fun _ _ => rfl)))
      obtain ⟨a, ha⟩ : ∃ a, a = hp i := ⟨_, rfl⟩
      rw [← ha] at r0 CP
      have b0 : wr.cell? ⟨T2, 0, none⟩ = some vr := by rw [HT.out]; exact blk_cell F.out.box rfl
      have b1 : wr.drew.cell? ⟨T2, 0, none⟩ = some vr := b0
      clear ha h0 hz0 hz1 hz2 TR
      go_wp2_with fail
      go_region_law (first
        | (refine step_callR (by rfl) 64 #[.pointer (some ⟨a, 0, none⟩)] (by first | kernel_rfl | go_simp) CP.out ?_; rintro e y ⟨Q, v', rfl, hQ, hH, hbY⟩; refine ⟨_, rfl, ?_⟩; obtain ⟨y1, y2⟩ := F.out.callK HT.out hbY Q; have HH := hid hH; have HQ := hid hQ; have HBY := hid hbY; have OWN := hid (F.out.callO hbY Q); have NB := hid (Deep.blk_alloc_new y (.cells #[.pointer (some ⟨Q, 0, none⟩)] 97)); have B3 := hid (F.out.callB hbY Q); have B1 := hid (show i + 1 ≤ maxLen by unfold maxLen; omega); have B2 := hid (show (i + 1) * 8 ≤ 140737488355328 by omega); clear hH hQ hbY)
        | (refine step_append_lies _ (by rfl) _ _ _ (by rfl) (w.heap.size + 2) 97 i0 _ 1 8 Try.underlying94 HI.out.1 HI.out.2.1 HI.out.2.2.1 HI.out.2.2.2 rfl (by omega) _ i _ (by rfl) OWN.out ⟨y.heap.size, 0, none⟩ 1 1 [.pointer (some ⟨Q, 0, none⟩)] (by rfl) (by rfl) (World.news_of_block (cs := #[.pointer (some ⟨Q, 0, none⟩)]) (t := 97) (fr := (0, 0)) NB.out) (by simp [Value.oneCell']) (by omega) B1.out B2.out B3.out (y.heap.size + 1) (by simp) ?_; intro gg cap w4 hown4 hgrow4 hat4 hlt4; have F4 := hid (F.out.drew.step HH.out HQ.out HBY.out hown4 hgrow4 hat4 hlt4); obtain ⟨y0, f0⟩ := F.out.drew.keep HBY.out hgrow4; rw [← HT.out] at y0 f0 F4; clear hown4 hgrow4 hat4 hlt4))
      all_goals
        have FX := F4
        clear F4 HH HQ HBY OWN NB B1 B2 B3 CP F HI TQ
        go_wp2_with fail
        go_roundw
        case rel => exact ⟨i + 1, _, _, _, by omega, by go_num, FX⟩
        case measure => simp [intOf]; omega
    · obtain rfl : i = n := by omega
      obtain ⟨g, mg0, hgi⟩ := TQ.out.mp
      have mg := mg0.kept (F.out.bl.block mb TQ.out.lt.2.2)
      obtain ⟨o, hrg, RG⟩ := RgI.start (P := Try.prog) (t := 93) mg undT
      have hmb := TQ.out.lt.2.2
      have tl := TQ.out.lt.1
      have hFl := F.out.lt
      have C0 := hid (show Cm w (wr.alloc o) mb wr.heap.size g k (fun a => (g a).isSome) k (wr.alloc o) from ⟨RG, ⟨_, _, F.out.mp.kept (Below.heap_alloc _ _ _ (by omega)), fun a => by
        rcases hga : g a with _ | x <;> simp⟩, Below.refl _ _, fun _ _ _ _ => rfl, Nat.le_refl _⟩)
      have FB := hid F.out
      have MG := hid mg0
      have GI := hid hgi
      have c1' : wr.cell? ⟨t, 1, none⟩ = some (.map (some mb)) := (World.cell?_of_block (F.out.bl.block t tl)).trans c1
      have kb := hid (show ∀ y : World, (∀ q, q < (wr.alloc o).heap.size → q ≠ w.heap.size → q ≠ wr.heap.size → y.heap[q]? = (wr.alloc o).heap[q]?) → y.cell? ⟨T2, 1, none⟩ = some (.map (some w.heap.size)) from fun y hy => by
        have hT := HT.out
        rw [hT]
        exact blk_cell ((hy (w.heap.size + 1) (by simp; omega) (by omega) (by omega)).trans ((Below.heap_alloc _ _ _ (by omega)).trans F.out.box)) rfl)
      obtain ⟨wB, hwB⟩ : ∃ wB, wB = wr := ⟨_, rfl⟩
      subst hwB
      obtain ⟨r, hr⟩ : ∃ r, r = wB.heap.size := ⟨_, rfl⟩
      have HR := hid hr
      have hrl : w.heap.size + 1 < r := by omega
      rw [← hr] at C0 hrg kb
      clear mg0 mg hgi RG TR hr hFl F
      go_wp2_with fail
      go_loopw [6] (fun x6 w9 => ∃ (left : Int → Bool) (cnt : Nat), Hid (Cm w (wB.alloc o) mb r g k left cnt w9)) (fun _ w9 => leftI w9 mb r)
      case atStart => exact ⟨_, _, C0⟩
      case round =>
        clear C0 hrg
        obtain ⟨left, cnt, C⟩ := hrel
        have LEq := hid C.out.rg.left_eq
        rcases C.out.next (fun a => (GI.out a).elim (fun h => .inl h.1) (fun h => .inr h.1)) (by omega) hmb with ⟨e0, e1, e2⟩ | ⟨a, w1, w2, cnt', h1, h2, h3, h4, h5, h6⟩
        · obtain ⟨gg, c3, hfin, hbl⟩ := Cw.fin FB.out hn HR.out C.out MG.out e1 GI.out TQ.out.ord
          have FQ := hid hfin
          have FL := hid hbl
          clear hfin hbl e1
          go_wp2
          go_ret
          exact ⟨_, _, _, _, (show Ending.returned (.pointer (some ⟨T2, 0, none⟩)) = _ by rw [HT.out]), FQ.out, FL.out⟩
        · have b1 : w1.cell? ⟨T2, 1, none⟩ = some (.map (some w.heap.size)) := kb.out w1 (fun q q1 q2 q3 => (h3 q q3 (by have := C.out.sz; omega)).trans (C.out.kp q q1 q2 q3))
          have C2 := hid h5
          have L2 := hid h5.rg.left_eq
          clear h3 h5
          go_wp2_with fail
          go_roundw
          case rel => exact ⟨_, _, C2⟩
          case measure => rw [L2.out, LEq.out]; exact h6
end
end Go.Proofs.Ytaogpodncphpjaa
