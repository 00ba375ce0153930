/- A log's Count. -/
import Derived.Test.YtfilocmoffpjmaaDoorSeqE
import Derived.Test.YtfilocmoffpjmaaDoorBig
namespace Go.Proofs.YtfilocmoffpjmaaDoor
open Go.RowKit Go.Shelf
set_option linter.unusedVariables false
set_option linter.unusedSimpArgs false
attribute [local go_sem] Oper.semAt_some
/-- How many of a kind. -/
def cntE (k : Int) (es : List Ev) : Nat := (es.filter fun e => e.1 == k).length
theorem cntE_snoc (k : Int) (es : List Ev) (e : Ev) : cntE k (es ++ [e]) = cntE k es + (if e.1 = k then 1 else 0) := by
  unfold cntE
  rw [List.filter_append, List.length_append]
  by_cases h : e.1 = k
  · simp [List.filter, h]
  · have hb : (e.1 == k) = false := by simpa using h
    simp [List.filter, h, hb]
theorem cntE_le (k : Int) (es : List Ev) : cntE k es ≤ es.length := List.length_filter_le ..
/-- A block of cells, whatever they are: it speaks of cells alone. -/
theorem blk_own {β : Type} (B : Nat) (cs : Array Value) (t : TypeId) : Own (fun (_ : β) W => W.heap[B]? = some (.cells cs t (0, 0))) := fun s X Y row hs hg hrow =>
  (hg.block B (Array.getElem?_eq_some_iff.1 hs).1 (fun e' => by obtain ⟨o, ho, hc⟩ := hrow B e'.symm; rw [hs] at ho; cases ho; cases hc)).trans hs
/-- A store into another block leaves it. -/
theorem blk_oth {W : World} {B B' i : Nat} {o : Obj} (h : W.heap[B]? = some o) (hne : B ≠ B') (u : Value) : (W.setCell ⟨B', i, none⟩ u).heap[B]? = some o := (heap_setCell_other _ _ _ _ (by simpa using hne)).trans h
@[reducible] def evCs (e : Ev) : Array Value := #[.int .i64 e.1, .int .i64 e.2.1, .int .i64 e.2.2.1, .int .i64 e.2.2.2.1, .int .i64 e.2.2.2.2]
set_option maxRecDepth 100000 in
set_option maxHeartbeats 8000000 in
theorem ecount_in (F : Fence) (n : Nat) (h13 : F.fn 13) (h17 : F.fn 17) (h22 : F.fn 22) (h8 : F.fn 8) (hro : F.round = none) (hn : 6 ≤ n) (p o : Nat) (v : Value) (es : List Ev) (hL : es.length < 1000000) (k : Int) (w : World)
    (hpn : p < w.heap.size) (hp : w.cell? ⟨p, o, none⟩ = some v) (hr : RdE w v es) :
    CallsIn F n Tryd.prog 13 #[.pointer (some ⟨p, o, none⟩), .int .i64 k] w fun e W' => e = .returned (.int .i64 (cntE k es)) ∧ Below w.heap.size w W' := by
  have h1 : 1 ≤ n := by omega
  refine callsIn_of_wp_marks Tryd.func13 rfl h13 ?_ hro
  simp only [Tryd.ntmps13, List.size_toArray, List.length_cons, List.length_nil, Nat.reduceAdd, Nat.reduceSub, Array.replicate_succ, Array.replicate_zero, List.push_toArray, List.append_toArray, List.nil_append, List.cons_append]
  gi_wp2_with (gi_at_call 17; refine (eall_in F (n - 1) h17 hro _ _).mono ?_; rintro e w' ⟨rfl, rfl⟩)
  have bK := ((Boxed.new w 27 (.int .i64 k)).alloc (.cells #[.int .i64 0] 3)).alloc (.cells #[.pointer (some ⟨p, o, none⟩)] 45)
  have bN := (Boxed.new (w.alloc (.cells #[.int .i64 k] 27)) 3 (.int .i64 0)).alloc (.cells #[.pointer (some ⟨p, o, none⟩)] 45)
  have bL := Boxed.new ((w.alloc (.cells #[.int .i64 k] 27)).alloc (.cells #[.int .i64 0] 3)) 45 (.pointer (some ⟨p, o, none⟩))
  simp only [World.size_alloc] at bN bL
  have hB0 : Below w.heap.size w (((w.alloc (.cells #[.int .i64 k] 27)).alloc (.cells #[.int .i64 0] 3)).alloc (.cells #[.pointer (some ⟨p, o, none⟩)] 45)) := (((Below.refl _ w).alloc (Nat.le_refl _) _).alloc (by simp) _).alloc (by simp; omega) _
  have hsz : (((w.alloc (.cells #[.int .i64 k] 27)).alloc (.cells #[.int .i64 0] 3)).alloc (.cells #[.pointer (some ⟨p, o, none⟩)] 45)).heap.size = w.heap.size + 3 := by simp
  obtain ⟨W0, hW0⟩ : ∃ W0, ((w.alloc (.cells #[.int .i64 k] 27)).alloc (.cells #[.int .i64 0] 3)).alloc (.cells #[.pointer (some ⟨p, o, none⟩)] 45) = W0 := ⟨_, rfl⟩
  rw [hW0] at bK bN bL hB0 hsz ⊢
  clear hW0
  have rE : RowE w.heap.size W0 v es := RowE.below hB0 ⟨hr, fun q h0 hq => by
    obtain ⟨a, c, rfl, _, hh⟩ := hr
    obtain ⟨g, off, rfl, hg, _⟩ := hh h0
    simp [Value.ownBlock] at hq
    omega⟩
  refine wpIn_rangeFunc_ownH hro h1 (gf := 22) (lb := #[.pointer (some ⟨w.heap.size + 1 + 1, 0, none⟩)]) rfl h22 (enters_of Tryd.func22 (by kernel_rfl) rfl)
    (eall_stops F (n - 1) h22 h8 hro (by omega) (w.heap.size + 1 + 1) w.heap.size p o v es hL W0 (by omega) bL hpn ((hB0.cell (p := ⟨p, o, none⟩) hpn).trans hp) rE) KpE.trans (KpE.b (by omega)) (Below.refl _ _) (fun _ => rfl)
    (fun pre W => (Boxed W (w.heap.size + 1) 3 (.int .i64 (cntE k (pre.map Prod.snd) : Nat)) ∧ Boxed W w.heap.size 27 (.int .i64 k)) ∧ Below w.heap.size w W)
    (fun _ _ _ => False)
    (OwnFrom.and (OwnFrom.and (Own.from (boxed_own _ _ _) _) (Own.from (boxed_own _ _ _) _)) (ownFrom_below (Nat.le_refl _) (by omega)))
    (fun _ _ _ _ _ hs _ _ => hs)
    ⟨⟨bN, bK⟩, hB0⟩
    (fun x a' W => ∃ Bx, w.heap.size + 1 < Bx ∧ W.heap[Bx]? = some (.cells (evCs x.2) 29 (0, 0)) ∧ a' = { tmps := #[.pointer (some ⟨p, o, none⟩), .int .i64 k, undef, .pointer (some ⟨w.heap.size, 0, none⟩), .int .i64 0, .pointer (some ⟨w.heap.size + 1, 0, none⟩), undef, .pointer (some ⟨Bx, 0, none⟩), .pointer (some ⟨p, o, none⟩), .func (.func 22) #[] #[.pointer (some ⟨w.heap.size + 1 + 1, 0, none⟩)], .int .i64 (x.1 : Int), .agg (evCs x.2), undef, undef, undef, undef, undef, undef, undef], defers := [] })
    (fun x a' _ X Y row hs hg hr => by obtain ⟨Bx, h1, h2, h3⟩ := hs; exact ⟨Bx, h1, blk_own (β := Unit) Bx _ _ () X Y row h2 hg (fun r e => (hr r e).2), h3⟩)
    ?assign ?body ?done ?stop
  case assign =>
    rintro l pre x W K ⟨⟨b1, b2⟩, hB⟩ hK
    obtain ⟨x0, x1, x2, x3, x4, x5⟩ := x
    have hlt := b1.lt
    have hsz := hB.size
    have HK := hid hK
    clear hK
    gi_wp2
    exact HK.out _ _ ((KeepsOthers.alloc _ _).from _) ⟨(Below.refl _ W).alloc hsz _, fun v hv => hv.alloc _⟩ ⟨⟨b1.alloc _, b2.alloc _⟩, hB.alloc hsz _⟩ ⟨W.heap.size, hlt, heap_alloc_new W _, rfl⟩
  case body =>
    rintro l pre x a' W hl _ ⟨⟨b1, b2⟩, hB⟩ ⟨Bx, hBx, bX, rfl⟩ hlt
    obtain ⟨x0, x1, x2, x3, x4, x5⟩ := x
    have cN := b1.cell
    have fN := b1.frozen
    have cK := b2.cell
    have cX : W.cell? ⟨Bx, 0, none⟩ = some (.int .i64 x1) := blk_cell bX rfl
    have hcl := cntE_le k (pre.map Prod.snd)
    rw [List.length_map] at hcl
    have hc2 := cntE_snoc k (pre.map Prod.snd) (x1, x2, x3, x4, x5)
    by_cases he : x1 = k
    · have hb : (x1 == k) = true := by simpa using he
      rw [if_pos he] at hc2
      have W1 : IntKind.i64.wrap ((cntE k (pre.map Prod.snd) : Int) + 1) = ((cntE k ((pre ++ [(x0, x1, x2, x3, x4, x5)]).map Prod.snd) : Nat) : Int) := by
        rw [List.map_append, List.map_cons, List.map_nil, hc2]
        have hb : IntKind.i64.bits = 64 := rfl
        have hs : IntKind.i64.signed = true := rfl
        simp [IntKind.wrap, hb, hs]
        split <;> omega
      obtain ⟨c', hc'⟩ : ∃ c' : Int, c' = ((cntE k ((pre ++ [(x0, x1, x2, x3, x4, x5)]).map Prod.snd) : Nat) : Int) := ⟨_, rfl⟩
      rw [← hc'] at W1
      have HC := hid hc'
      clear hc' hc2
      subst he
      gi_wp2
      exact ⟨(KeepsOthers.setCell _ _ _).from _, ⟨(Below.refl _ W).setCell (p := ⟨w.heap.size + 1, 0, none⟩) (by simp) _, fun v hv => hv.other (by omega) _⟩, ⟨by rw [← HC.out]; exact b1.set _, b2.other (by omega) _⟩, hB.setCell (p := ⟨w.heap.size + 1, 0, none⟩) (by simp) _⟩
    · have hb : (x1 == k) = false := by simpa using he
      rw [if_neg he] at hc2
      gi_wp2
      exact ⟨KeepsFrom.refl _ _, KpE.refl _ _ _, ⟨by rw [List.map_append, List.map_cons, List.map_nil, hc2]; exact b1, b2⟩, hB⟩
  case done =>
    rintro D zs W hD rfl ⟨⟨b1, b2⟩, hB⟩ hK
    rw [prE_snd es es.length (Nat.le_refl _), List.take_of_length_le (Nat.le_refl _)] at b1
    have cS := b1.cell
    gi_wp2
    refine ⟨by simp, .inl ⟨_, _, rfl, run_takeDeferred hK, ?_⟩⟩
    exact ⟨_, results_tmp rfl _ _ _, rfl, hB.trans (belowK_b (w := w) (Nat.le_refl _) W D _ _ (by omega) hK rfl rfl)⟩
  case stop =>
    rintro D c pre W _ _ h _
    exact h.elim
end Go.Proofs.YtfilocmoffpjmaaDoor
