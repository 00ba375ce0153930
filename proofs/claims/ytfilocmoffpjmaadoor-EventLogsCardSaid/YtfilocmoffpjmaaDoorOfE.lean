/- A log's Of: those of a goroutine. -/
import Derived.Test.YtfilocmoffpjmaaDoorCntE
import Derived.Test.YtfilocmoffpjmaaDoorWoI
namespace Go.Proofs.YtfilocmoffpjmaaDoor
open Go.RowKit Go.Shelf
set_option linter.unusedVariables false
set_option linter.unusedSimpArgs false
attribute [local go_sem] Oper.semAt_some
/-- Those of a goroutine. -/
def ofE (g : Int) (es : List Ev) : List Ev := es.filter fun e => e.2.1 == g
theorem ofE_snoc (g : Int) (es : List Ev) (e : Ev) : ofE g (es ++ [e]) = ofE g es ++ (if e.2.1 = g then [e] else []) := by
  unfold ofE
  rw [List.filter_append]
  by_cases h : e.2.1 = g
  · simp [List.filter, h]
  · have hb : (e.2.1 == g) = false := by simpa using h
    simp [List.filter, h, hb]
theorem ofE_le (g : Int) (es : List Ev) : (ofE g es).length ≤ es.length := List.length_filter_le ..
theorem cell_ev_new (w : World) (e : Ev) (t : TypeId) : ∀ j u, (fe [e])[j]? = some u → (w.alloc (.cells (evCs e) t)).cell? ((⟨w.heap.size, 0, none⟩ : Addr).add j) = some u := by
  intro j u hj
  have hn : (w.alloc (.cells (evCs e) t)).heap[w.heap.size]? = some (.cells (evCs e) t (0, 0)) := heap_alloc_new w _
  rw [Addr.add_lit]
  match j, hj with
  | 0, hj => simp [fe, evc] at hj; subst hj; exact blk_cell hn rfl
  | 1, hj => simp [fe, evc] at hj; subst hj; exact blk_cell hn rfl
  | 2, hj => simp [fe, evc] at hj; subst hj; exact blk_cell hn rfl
  | 3, hj => simp [fe, evc] at hj; subst hj; exact blk_cell hn rfl
  | 4, hj => simp [fe, evc] at hj; subst hj; exact blk_cell hn rfl
  | j + 5, hj => simp [fe, evc] at hj
def OfP (w : World) (es : List Ev) (e : Ending) (W' : World) : Prop := ∃ v, e = .returned v ∧ RdE W' v es ∧ (∀ q, v.ownBlock = some q → w.heap.size ≤ q ∧ q < W'.heap.size) ∧ Below w.heap.size w W'
set_option maxRecDepth 100000 in
set_option maxHeartbeats 8000000 in
theorem eof_in (F : Fence) (n : Nat) (h11 : F.fn 11) (h17 : F.fn 17) (h22 : F.fn 22) (h8 : F.fn 8) (hro : F.round = none) (hn : 6 ≤ n) (p o : Nat) (v : Value) (es : List Ev) (hL : es.length < 1000000) (g : Int) (w : World)
    (hpn : p < w.heap.size) (hp : w.cell? ⟨p, o, none⟩ = some v) (hr : RdE w v es) :
    CallsIn F n Tryd.prog 11 #[.pointer (some ⟨p, o, none⟩), .int .i64 g] w (OfP w (ofE g es)) := by
  have h1 : 1 ≤ n := by omega
  obtain ⟨i0, hi, hz0, hz1, hz2⟩ := info_parts infoEv
  refine callsIn_of_wp_marks Tryd.func11 rfl h11 ?_ hro
  simp only [Tryd.ntmps11, List.size_toArray, List.length_cons, List.length_nil, Nat.reduceAdd, Nat.reduceSub, Array.replicate_succ, Array.replicate_zero, List.push_toArray, List.append_toArray, List.nil_append, List.cons_append]
  gi_wp2_with (gi_at_call 17; refine (eall_in F (n - 1) h17 hro _ _).mono ?_; rintro e w' ⟨rfl, rfl⟩)
  have bK := ((Boxed.new w 3 (.int .i64 g)).alloc (.cells #[.slice none 0 0] 22)).alloc (.cells #[.pointer (some ⟨p, o, none⟩)] 45)
  have bN := (Boxed.new (w.alloc (.cells #[.int .i64 g] 3)) 22 (.slice none 0 0)).alloc (.cells #[.pointer (some ⟨p, o, none⟩)] 45)
  have bL := Boxed.new ((w.alloc (.cells #[.int .i64 g] 3)).alloc (.cells #[.slice none 0 0] 22)) 45 (.pointer (some ⟨p, o, none⟩))
  simp only [World.size_alloc] at bN bL
  have hB0 : Below w.heap.size w (((w.alloc (.cells #[.int .i64 g] 3)).alloc (.cells #[.slice none 0 0] 22)).alloc (.cells #[.pointer (some ⟨p, o, none⟩)] 45)) := (((Below.refl _ w).alloc (Nat.le_refl _) _).alloc (by simp) _).alloc (by simp; omega) _
  have hsz : (((w.alloc (.cells #[.int .i64 g] 3)).alloc (.cells #[.slice none 0 0] 22)).alloc (.cells #[.pointer (some ⟨p, o, none⟩)] 45)).heap.size = w.heap.size + 3 := by simp
  obtain ⟨W0, hW0⟩ : ∃ W0, ((w.alloc (.cells #[.int .i64 g] 3)).alloc (.cells #[.slice none 0 0] 22)).alloc (.cells #[.pointer (some ⟨p, o, none⟩)] 45) = W0 := ⟨_, rfl⟩
  rw [hW0] at bK bN bL hB0 hsz ⊢
  clear hW0
  have rE : RowE w.heap.size W0 v es := RowE.below hB0 ⟨hr, fun q h0 hq => by
    obtain ⟨a, c, rfl, _, hh⟩ := hr
    obtain ⟨gg, off, rfl, hg, _⟩ := hh h0
    simp [Value.ownBlock] at hq
    omega⟩
  refine wpIn_rangeFunc_ownH hro h1 (gf := 22) (lb := #[.pointer (some ⟨w.heap.size + 1 + 1, 0, none⟩)]) rfl h22 (enters_of Tryd.func22 (by kernel_rfl) rfl)
    (eall_stops F (n - 1) h22 h8 hro (by omega) (w.heap.size + 1 + 1) w.heap.size p o v es hL W0 (by omega) bL hpn ((hB0.cell (p := ⟨p, o, none⟩) hpn).trans hp) rE) KpE.trans (KpE.b (by omega)) (Below.refl _ _) (fun _ => rfl)
    (fun (pre : List (Nat × Ev)) W => ((∃ v, Boxed W (w.heap.size + 1) 22 v ∧ W.ownsRow w.heap.size 29 5 v (ofE g (pre.map Prod.snd)).length (fe (ofE g (pre.map Prod.snd))) ∧ True) ∧ Boxed W w.heap.size 3 (.int .i64 g)) ∧ Below w.heap.size w W)
    (fun _ _ _ => False)
    (OwnFrom.and (OwnFrom.and (Own.from (holdsRow_own w.heap.size (w.heap.size + 1) 22 29 5 (fun (pre : List (Nat × Ev)) => (ofE g (pre.map Prod.snd)).length) (fun (pre : List (Nat × Ev)) => fe (ofE g (pre.map Prod.snd))) (fun pre v => True)) _) (Own.from (boxed_own _ _ _) _)) (ownFrom_below (Nat.le_refl _) (by omega)))
    (fun _ _ _ _ _ hs _ _ => hs)
    ⟨⟨⟨_, bN, World.ownsRow_nil _ _ _ _, trivial⟩, bK⟩, hB0⟩
    (fun x a' W => ∃ Bx, w.heap.size + 1 < Bx ∧ W.heap[Bx]? = some (.cells (evCs x.2) 29 (0, 0)) ∧ a' = { tmps := #[.pointer (some ⟨p, o, none⟩), .int .i64 g, undef, .pointer (some ⟨w.heap.size, 0, none⟩), .slice none 0 0, .pointer (some ⟨w.heap.size + 1, 0, none⟩), undef, .pointer (some ⟨Bx, 0, none⟩), .pointer (some ⟨p, o, none⟩), .func (.func 22) #[] #[.pointer (some ⟨w.heap.size + 1 + 1, 0, none⟩)], .int .i64 (x.1 : Int), .agg (evCs x.2), undef, undef, undef, undef, undef, undef, undef, undef, undef], defers := [] })
    (fun x a' _ X Y row hs hg hr => by obtain ⟨Bx, h1, h2, h3⟩ := hs; exact ⟨Bx, h1, blk_own (β := Unit) Bx _ _ () X Y row h2 hg (fun r e => (hr r e).2), h3⟩)
    ?assign ?body ?done ?stop
  case assign =>
    rintro l pre x W K ⟨⟨⟨v1, b1, rw1, _⟩, b2⟩, hB⟩ hK
    obtain ⟨x0, x1, x2, x3, x4, x5⟩ := x
    have hlt := b1.lt
    have hsz := hB.size
    have HK := hid hK
    have RW := hid rw1
    clear hK rw1
    gi_wp2
    exact HK.out _ _ ((KeepsOthers.alloc _ _).from _) ⟨(Below.refl _ W).alloc hsz _, fun v hv => hv.alloc _⟩ ⟨⟨⟨_, b1.alloc _, RW.out.alloc _, trivial⟩, b2.alloc _⟩, hB.alloc hsz _⟩ ⟨W.heap.size, hlt, heap_alloc_new W _, rfl⟩
  case body =>
    rintro l pre x a' W hl _ ⟨⟨⟨v1, b1, rw1, _⟩, b2⟩, hB⟩ ⟨Bx, hBx, bX, rfl⟩ hlt
    obtain ⟨x0, x1, x2, x3, x4, x5⟩ := x
    have cN := b1.cell
    have cK := b2.cell
    have d0 : W.cell? ⟨Bx, 0, none⟩ = some (.int .i64 x1) := blk_cell bX rfl
    have d1 : W.cell? ⟨Bx, 1, none⟩ = some (.int .i64 x2) := blk_cell bX rfl
    have d2 : W.cell? ⟨Bx, 2, none⟩ = some (.int .i64 x3) := blk_cell bX rfl
    have d3 : W.cell? ⟨Bx, 3, none⟩ = some (.int .i64 x4) := blk_cell bX rfl
    have d4 : W.cell? ⟨Bx, 4, none⟩ = some (.int .i64 x5) := blk_cell bX rfl
    have hcl := ofE_le g (pre.map Prod.snd)
    rw [List.length_map] at hcl
    have hc2 := hid (ofE_snoc g (pre.map Prod.snd) (x1, x2, x3, x4, x5))
    have hsn : (pre ++ [(x0, x1, x2, x3, x4, x5)]).map Prod.snd = pre.map Prod.snd ++ [(x1, x2, x3, x4, x5)] := by simp
    have HSN := hid hsn
    have RW := hid rw1
    clear hsn rw1
    by_cases he : x2 = g
    · have hb : (x2 == g) = true := by simpa using he
      have hsB := hB.size
      have hN := hid (show ofE g ((pre ++ [(x0, x1, x2, x3, x4, x5)]).map Prod.snd) = ofE g (pre.map Prod.snd) ++ [(x1, x2, x3, x4, x5)] by rw [HSN.out, hc2.out]; simp only; rw [if_pos he])
      generalize ofE g (pre.map Prod.snd) = ys at *
      subst he
      gi_wp2_with (gi_at_builtin; refine wpListIn_append_own _ rfl _ _ 22 rfl w.heap.size 29 i0 (.agg #[.int .i64 0, .int .i64 0, .int .i64 0, .int .i64 0, .int .i64 0]) 5 40 Tryd.underlying22 hi hz0 hz1 hz2 rfl (by decide) _ _ _ rfl (RW.out.alloc _) ⟨W.heap.size, 0, none⟩ 1 1 (fe [(x1, x2, x3, x4, x5)]) rfl rfl (cell_ev_new _ _ _) (fe_ones _) (by unfold maxLen; omega) (by omega) (by simp; omega) ?_; intro v' w1 hown' hgrow _; obtain ⟨g', cap', rfl⟩ := ownsRow_succ hown'; obtain ⟨hv1, hv2, hr2, hk2, hb2⟩ := b1.appended (by decide) RW.out hB.size (by omega) hown' hgrow; have hc1 := hv1.cell; have hf1 := hv1.frozen)
      exact ⟨hk2.from _, ⟨hb2, fun v hv => ((hv.alloc _).kept hgrow (hv.not_row (by decide) RW.out)).other (by omega) _⟩, ⟨⟨_, hv2, by rw [hN.out, fe_app, List.length_append]; exact hr2⟩, ((b2.alloc _).kept hgrow (b2.not_row (by decide) RW.out)).other (by omega) _⟩, hB.trans hb2⟩
    · have hb : (x2 == g) = false := by simpa using he
      have hN := hid (show ofE g ((pre ++ [(x0, x1, x2, x3, x4, x5)]).map Prod.snd) = ofE g (pre.map Prod.snd) by rw [HSN.out, hc2.out]; simp only; rw [if_neg he, List.append_nil])
      clear hc2
      gi_wp2
      exact ⟨KeepsFrom.refl _ _, KpE.refl _ _ _, ⟨⟨_, b1, by rw [hN.out]; exact RW.out⟩, b2⟩, hB⟩
  case done =>
    rintro D zs W hD rfl ⟨⟨⟨v1, b1, rw1, _⟩, b2⟩, hB⟩ hK
    rw [prE_snd es es.length (Nat.le_refl _), List.take_of_length_le (Nat.le_refl _)] at rw1
    have cS := b1.cell
    have RW := hid rw1
    clear rw1
    gi_wp2
    refine ⟨by simp, .inl ⟨_, _, rfl, run_takeDeferred hK, ?_⟩⟩
    have ow := ownsRow_putObj RW.out (.deferred none) hK rfl
    exact ⟨_, results_tmp rfl _ _ _, _, rfl, own_rdE ow, World.ownsRow.lt ow, hB.trans (belowK_b (w := w) (Nat.le_refl _) W D _ _ (by omega) hK rfl rfl)⟩
  case stop =>
    rintro D c pre W _ _ h _
    exact h.elim
end Go.Proofs.YtfilocmoffpjmaaDoor
