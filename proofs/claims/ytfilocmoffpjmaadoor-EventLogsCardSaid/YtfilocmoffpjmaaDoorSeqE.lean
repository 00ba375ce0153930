/- A log's All: the iterator's contract (it reads the log's row between two rounds). -/
import Derived.RangeFuncNested
import Derived.RangeFuncBound
import Derived.RangeFuncCalls
import Derived.RangeFuncLeaves
import Derived.RangeFuncBox
import Derived.Shelf.Abstract
import Derived.Shelf.RegionOpen
import Derived.WalkKit
import Derived.OwnWalkIn
import Derived.TacticsInMore
import Derived.LoopNIn
import Derived.LoopIn
import Derived.Test.YtfilocmoffpjmaaDoorRdE
namespace Go.Proofs.YtfilocmoffpjmaaDoor
open Go.RowKit Go.Shelf
set_option linter.unusedVariables false
set_option linter.unusedSimpArgs false
attribute [local go_sem] Oper.semAt_some
/-- What a log's row is, below a place of the heap. -/
def RowE (n₀ : Nat) (W : World) (v : Value) (es : List Ev) : Prop := RdE W v es ∧ ∀ q, 0 < es.length → v.ownBlock = some q → q < n₀
theorem RowE.below {n₀ : Nat} {A B : World} (hb : Below n₀ A B) {v : Value} {es : List Ev} (h : RowE n₀ A v es) : RowE n₀ B v es := by
  obtain ⟨⟨a, c, e1, e2, e3⟩, h2⟩ := h
  refine ⟨⟨a, c, e1, e2, fun h0 => ?_⟩, h2⟩
  obtain ⟨g, off, rfl, hg, hc⟩ := e3 h0
  have hgn : g < n₀ := h2 g h0 (by rw [e1]; rfl)
  refine ⟨g, off, rfl, by have := hb.size; omega, fun i hi => ?_⟩
  obtain ⟨q0, q1, q2, q3, q4⟩ := hc i hi
  exact ⟨(hb.cell (p := ⟨g, _, none⟩) hgn).trans q0, (hb.cell (p := ⟨g, _, none⟩) hgn).trans q1, (hb.cell (p := ⟨g, _, none⟩) hgn).trans q2, (hb.cell (p := ⟨g, _, none⟩) hgn).trans q3, (hb.cell (p := ⟨g, _, none⟩) hgn).trans q4⟩
/-- What has come when k rounds are over: each with its place. -/
def prE (es : List Ev) (k : Nat) : List (Nat × Ev) := (List.range k).map fun j => (j, evAt es j)
theorem prE_succ (es : List Ev) (k : Nat) : prE es (k + 1) = prE es k ++ [(k, evAt es k)] := by simp [prE, List.range_succ]
theorem prE_len (es : List Ev) (k : Nat) : (prE es k).length = k := by simp [prE]
theorem prE_snd (es : List Ev) : ∀ k, k ≤ es.length → (prE es k).map Prod.snd = es.take k
  | 0, _ => by simp [prE]
  | k + 1, h => by rw [prE_succ, List.map_append, prE_snd es k (by omega), ev_take (by omega)]; rfl
/-- What a round keeps: what lies below a place, and the box that All's function has. -/
def KpE (n₀ Bs : Nat) (W W' : World) : Prop := Below n₀ W W' ∧ ∀ v, Boxed W Bs 45 v → Boxed W' Bs 45 v
theorem KpE.refl (n₀ Bs : Nat) (W : World) : KpE n₀ Bs W W := ⟨Below.refl _ _, fun _ h => h⟩
theorem KpE.trans {n₀ Bs : Nat} {A B C : World} (h : KpE n₀ Bs A B) (k : KpE n₀ Bs B C) : KpE n₀ Bs A C := ⟨h.1.trans k.1, fun v q => k.2 v (h.2 v q)⟩
theorem KpE.b {n₀ Bs : Nat} {w : World} (hn : n₀ ≤ w.heap.size) (W : World) (l : Nat) (o o' : Obj) (hl : w.heap.size ≤ l) (h : W.heap[l]? = some o) (hc : o.isCells = false) (hw : o.isWalk = false) : KpE n₀ Bs W (W.putObj l o') :=
  ⟨belowK_b hn W l o o' hl h hc hw, fun v hv => hv.kept (grownBy_putObj' W l o') (fun e => by
    cases e
    rw [show W.heap[Bs]? = _ from hv] at h; cases h; cases hc)⟩
@[reducible] def encE (x : Nat × Ev) : Array Value := #[.int .i64 (x.1 : Int), .agg #[.int .i64 x.2.1, .int .i64 x.2.2.1, .int .i64 x.2.2.2.1, .int .i64 x.2.2.2.2.1, .int .i64 x.2.2.2.2.2]]
set_option maxHeartbeats 2000000 in
theorem elen_in (F : Fence) (n : Nat) (hF : F.fn 8) (hro : F.round = none) (p o : Nat) (a : Option Addr) (m c : Nat) (W : World) (hp : W.cell? ⟨p, o, none⟩ = some (.slice a m c)) :
    CallsIn F n Tryd.prog 8 #[.pointer (some ⟨p, o, none⟩)] W fun e W' => e = .returned (.int .i64 m) ∧ W' = W := by
  refine callsIn_of_wp Tryd.func8 rfl hF ?_ hro
  simp only [Tryd.ntmps8, List.size_toArray, List.length_cons, List.length_nil, Nat.reduceAdd, Nat.reduceSub, Array.replicate_succ, Array.replicate_zero, List.push_toArray, List.append_toArray, List.nil_append, List.cons_append]
  gi_wp2
  go_ret
  exact ⟨rfl, rfl⟩
set_option maxRecDepth 100000 in
set_option maxHeartbeats 4000000 in
theorem eall1_in (F : Fence) (n : Nat) (h22 : F.fn 22) (h8 : F.fn 8) (hro : F.round = none) (hn : 2 ≤ n) (l Bs n₀ p o : Nat) (es : List Ev) (hL : es.length < 1000000) (a : Option Addr) (c : Nat) (J Jx : List (Nat × Ev) → World → Prop)
    (hY : ∀ pre x W, J pre W → pre.length < es.length → YieldAt F (n - 1) Tryd.prog l (encE x) W fun e W' =>
      (e = .returned (.bool true) ∧ J (pre ++ [x]) W' ∧ KpE n₀ Bs W W') ∨ (e = .returned (.bool false) ∧ Jx (pre ++ [x]) W'))
    (W : World) (hBs : Boxed W Bs 45 (.pointer (some ⟨p, o, none⟩))) (hpn : p < n₀) (hp : W.cell? ⟨p, o, none⟩ = some (.slice a es.length c)) (hr : RowE n₀ W (.slice a es.length c) es) (h0 : J [] W) :
    CallsIn F n Tryd.prog 22 #[.func (.yield l) #[] #[], .pointer (some ⟨Bs, 0, none⟩)] W fun e W' => (∃ v, e = .returned v) ∧
      ((∃ ys, ys = prE es es.length ∧ J ys W') ∨ (∃ pre, (∃ k, k ≤ es.length ∧ pre = prE es k) ∧ Jx pre W')) := by
  have h1 : 1 ≤ n := by omega
  refine callsIn_of_wp Tryd.func22 rfl h22 ?_ hro
  simp only [Tryd.ntmps22, List.size_toArray, List.length_cons, List.length_nil, Nat.reduceAdd, Nat.reduceSub, Array.replicate_succ, Array.replicate_zero, List.push_toArray, List.append_toArray, List.nil_append, List.cons_append]
  gi_wp2
  gi_loopw [3] (fun i wr => ∃ k : Nat, k ≤ es.length ∧ i = .int .i64 k ∧ J (prE es k) wr ∧ KpE n₀ Bs W wr) (fun i _ => es.length - (intOf i).toNat)
  case atStart => exact ⟨0, Nat.zero_le _, rfl, h0, KpE.refl _ _ _⟩
  case round =>
    obtain ⟨k, hk, rfl, hJs, hnx⟩ := hrel
    have x1 : wr.cell? ⟨Bs, 0, none⟩ = some (.pointer (some ⟨p, o, none⟩)) := (hnx.2 _ hBs).cell
    have x2 : wr.cell? ⟨p, o, none⟩ = some (.slice a es.length c) := (hnx.1.cell (p := ⟨p, o, none⟩) hpn).trans hp
    have LN := hid (elen_in F (n - 1) h8 hro p o a es.length c wr x2)
    by_cases hlt : k < es.length
    · obtain ⟨⟨a', c', e, _, hh⟩, hq⟩ := hr.below hnx.1
      simp only [Value.slice.injEq] at e
      obtain ⟨rfl, _, rfl⟩ := e
      obtain ⟨g, off, rfl, hg, hc⟩ := hh (by omega)
      obtain ⟨c0, c1, c2, c3, c4⟩ := hc k hlt
      obtain ⟨fn, tmps, assign, body, hy, hR⟩ := hY _ (k, evAt es k) wr hJs (by rw [prE_len]; exact hlt)
      have hk3 := prE_succ es k
      generalize evAt es k = ev at *
      obtain ⟨u0, u1, u2, u3, u4⟩ := ev
      unfold encE at hy
      dsimp only at hy
      simp only at c0 c1 c2 c3 c4
      have HR := hid hR
      clear hR hY hc hh hq hr
      gi_wp2_with (gi_at_call 8; refine LN.out.mono ?_; rintro e w' ⟨rfl, rfl⟩)
      refine HR.out.mono ?_
      rintro e W3 (⟨rfl, hJ3, hk3'⟩ | ⟨rfl, hJx3⟩)
      · gi_wp2
        go_roundw
        case rel => exact ⟨k + 1, by omega, by go_num, by rw [hk3]; exact hJ3, hnx.trans hk3'⟩
        case measure => simp [intOf]; omega
      · gi_wp2
        refine bodyPost_ret (results_none rfl _ _ _) rfl ?_
        exact ⟨⟨_, rfl⟩, .inr ⟨_, ⟨k + 1, by omega, hk3.symm⟩, hJx3⟩⟩
    · obtain rfl : k = es.length := by omega
      gi_wp2_with (gi_at_call 8; refine LN.out.mono ?_; rintro e w' ⟨rfl, rfl⟩)
      go_end0
      exact ⟨⟨_, rfl⟩, .inl ⟨_, rfl, hJs⟩⟩
set_option maxHeartbeats 2000000 in
/-- A log's All hands back a function; the log's box is its own. -/
theorem eall_in (F : Fence) (n : Nat) (hF : F.fn 17) (hro : F.round = none) (v : Option Addr) (w : World) :
    CallsIn F n Tryd.prog 17 #[.pointer v] w fun e w' => e = .returned (.func (.func 22) #[] #[.pointer (some ⟨w.heap.size, 0, none⟩)]) ∧ w' = w.alloc (.cells #[.pointer v] 45) := by
  refine callsIn_of_wp Tryd.func17 rfl hF ?_ hro
  simp only [Tryd.ntmps17, List.size_toArray, List.length_cons, List.length_nil, Nat.reduceAdd, Nat.reduceSub, Array.replicate_succ, Array.replicate_zero, List.push_toArray, List.append_toArray, List.nil_append, List.cons_append]
  gi_wp2
  go_ret
  exact ⟨rfl, rfl⟩
theorem eall_stops (F : Fence) (n : Nat) (h22 : F.fn 22) (h8 : F.fn 8) (hro : F.round = none) (hn : 2 ≤ n) (Bs n₀ p o : Nat) (v : Value) (es : List Ev) (hL : es.length < 1000000) (w : World) (hn₀ : n₀ ≤ w.heap.size)
    (hBs : Boxed w Bs 45 (.pointer (some ⟨p, o, none⟩))) (hpn : p < n₀) (hp : w.cell? ⟨p, o, none⟩ = some v) (hr : RowE n₀ w v es) :
    SeqStopsK F n Tryd.prog 22 #[.pointer (some ⟨Bs, 0, none⟩)] encE (KpE n₀ Bs) (fun ys => ys = prE es es.length) (fun _ => True) es.length w := fun l J Jx W hW _ _ hY h0 => by
  obtain ⟨⟨a, c, rfl, _⟩, _⟩ := id hr
  have hB : Boxed W Bs 45 (.pointer (some ⟨p, o, none⟩)) := (hW.block _ hBs.lt).trans hBs
  refine (eall1_in F n h22 h8 hro hn l Bs n₀ p o es hL a c J Jx hY W hB hpn ((hW.cell (p := ⟨p, o, none⟩) (by show p < _; omega)).trans hp) (hr.below (hW.mono hn₀)) h0).mono ?_
  rintro e W' ⟨he, ⟨ys, rfl, hj⟩ | ⟨pre, _, hj⟩⟩
  · exact ⟨he, .inl ⟨_, rfl, hj⟩⟩
  · exact ⟨he, .inr ⟨_, trivial, hj⟩⟩
end Go.Proofs.YtfilocmoffpjmaaDoor
