/- tally.Of as a contract. -/
import Derived.Test.YtlgkjaeijceekaaGreatDoorTally3
namespace Go.Proofs.YtlgkjaeijceekaaGreatDoor
set_option linter.unusedVariables false
set_option linter.unusedSimpArgs false
set_option maxRecDepth 20000
open Go.RowKit
/-- How many events of a goroutine, of a kind. -/
def cntf (g : Int) (es : List Ev) (j : Nat) : Int := ((es.filter fun e => e.2.1 == g && e.1 == (j : Int)).length : Nat)
def anyg (g : Int) (es : List Ev) : Bool := es.any fun e => e.2.1 == g
theorem cntf_app (g : Int) (es fs : List Ev) (j : Nat) : cntf g (es ++ fs) j = cntf g es j + cntf g fs j := by simp [cntf]
theorem anyg_app (g : Int) (es fs : List Ev) : anyg g (es ++ fs) = (anyg g es || anyg g fs) := by simp [anyg]
theorem cntf_range (g : Int) (es : List Ev) (j : Nat) : 0 ≤ cntf g es j ∧ cntf g es j ≤ es.length := by
  unfold cntf
  have := List.length_filter_le (fun e : Ev => e.2.1 == g && e.1 == (j : Int)) es
  omega
theorem cntf_none {g : Int} {es : List Ev} (h : anyg g es = false) (j : Nat) : cntf g es j = 0 := by
  unfold cntf
  rw [List.filter_eq_nil_iff.2]
  · rfl
  · intro e he
    simp only [anyg, List.any_eq_false] at h
    simpa using fun h1 _ => h e he (by simpa using h1)
theorem cntf_hit {g : Int} {es : List Ev} {kd mm pp vv : Int} (j : Nat) : cntf g (es ++ [(kd, g, mm, pp, vv)]) j = addk (cntf g es) kd j := by
  rw [cntf_app]
  unfold addk
  by_cases h : (j : Int) = kd
  · rw [if_pos h]; simp [cntf, h]
  · rw [if_neg h]
    have : ¬ kd = (j : Int) := fun e => h e.symm
    simp [cntf, this]
theorem cntf_miss {g : Int} {es : List Ev} {kd gg mm pp vv : Int} (h : gg ≠ g) : cntf g (es ++ [(kd, gg, mm, pp, vv)]) = cntf g es := by
  funext j
  rw [cntf_app]; simp [cntf, h]
def OfPost (g : Int) (es : List Ev) (w : World) (e : Ending) (w' : World) : Prop :=
  ∃ G L, e = .returned (.tuple #[.agg (rowc G (cntf g es) L), .bool (anyg g es)]) ∧ Below w.heap.size w w'
theorem rowc_ones (g : Int) (f : Nat → Int) (l : Int) : (rowc g f l).all (·.oneCell') = true := by simp [rowc, Value.oneCell']

theorem results_row_tmp {P : Program} {fn : Func} {p u : Tmp} {ty : TypeId} (h : fn.results = #[.cell p ty, .tmp u]) (tmps : Array Value) (w : World) (g : Nat) (t : TypeId) (cs : Array Value) (fr : Nat × Nat) (d : TypeDesc)
    (hp : tmps.getD p undef = .pointer (some ⟨g, 0, none⟩)) (hg : w.heap[g]? = some (.cells cs t fr))
    (hu : P.underlying ty = some d) (hd : (match d with | .struct _ | .array _ _ => true | _ => false) = true) (hi : (P.info? ty).map (·.size) = some cs.size) (b : Value) (hb : tmps.getD u undef = b) :
    (results fn tmps).run P w = .ok (.tuple #[.agg cs, b]) w := by
  rw [results_cell_tmp h, hp, hb]
  simp [asAddr, run_loadVar_row w g t ty cs fr d hg hu hd hi, Result.andThen]

set_option maxHeartbeats 4000000 in
theorem tof_any (v : Value) (es : List Ev) (g : Int) (w : World) (hr : RdE w v es) (hl : es.length ≤ 1000) :
    Calls Tryz.prog 9 #[v, .int .i64 g] w (OfPost g es w) := by
  have RD := hid hr
  obtain ⟨a, c, rfl, _, _⟩ := hr
  obtain ⟨n, hn⟩ : ∃ n, n = es.length := ⟨_, rfl⟩
  have HN := hid hn
  rw [← hn] at hl ⊢
  clear hn
  obtain ⟨P, hP⟩ : ∃ P, P = w.heap.size := ⟨_, rfl⟩
  have Z := hid (show rowc 0 (fun _ => 0) 0 = #[.int .i64 0, .int .i64 0, .int .i64 0, .int .i64 0, .int .i64 0, .int .i64 0, .int .i64 0, .int .i64 0, .int .i64 0, .int .i64 0] from rfl)
  go_enter Tryz.func9, Tryz.ntmps9
  go_wp2_with (refine wpList_store_row rfl 30 (.tmp 6) (.tmp 11) rfl (w.heap.size + 1) (rowc g (fun _ => 0) 0) rfl rfl 30 _ (heap_alloc2_new w _ _) (by kernel_rfl) (by rfl) (rowc_ones _ _ _) ?_)
  have B2 := hid (show Below P w (((w.alloc (.cells (rowc 0 (fun _ => 0) 0) 30)).alloc (.cells (rowc 0 (fun _ => 0) 0) 30)).setRow (w.heap.size + 1) (rowc g (fun _ => 0) 0)) from
    row_below (by rw [hP]; exact ((Below.refl _ _).alloc (Nat.le_refl _) _).alloc (by simp) _) (by omega) _)
  have R2 := hid (show (((w.alloc (.cells (rowc 0 (fun _ => 0) 0) 30)).alloc (.cells (rowc 0 (fun _ => 0) 0) 30)).setRow (w.heap.size + 1) (rowc g (fun _ => 0) 0)).heap[P + 1]? = some (.cells (rowc g (fun _ => 0) 0) 30 (0, 0)) from by
    rw [hP]; exact setRow_heap _ _ _ _ _ _ (heap_alloc2_new w _ _))
  have Z2 := hid (show (((w.alloc (.cells (rowc 0 (fun _ => 0) 0) 30)).alloc (.cells (rowc 0 (fun _ => 0) 0) 30)).setRow (w.heap.size + 1) (rowc g (fun _ => 0) 0)).heap[P]? = some (.cells (rowc 0 (fun _ => 0) 0) 30 (0, 0)) from by
    rw [hP, row_other _ _ _ _ (by omega)]; exact heap_alloc2_old w _ _)
  have s2 : (((w.alloc (.cells (rowc 0 (fun _ => 0) 0) 30)).alloc (.cells (rowc 0 (fun _ => 0) 0) 30)).setRow (w.heap.size + 1) (rowc g (fun _ => 0) 0)).heap.size = P + 2 := by rw [row_size]; simp [hP]
  rw [Z.out] at B2 R2 Z2 s2
  rw [← hP]
  rw [← hP] at B2 R2 Z2 s2
  generalize ((w.alloc (.cells #[.int .i64 0, .int .i64 0, .int .i64 0, .int .i64 0, .int .i64 0, .int .i64 0, .int .i64 0, .int .i64 0, .int .i64 0, .int .i64 0] 30)).alloc (.cells #[.int .i64 0, .int .i64 0, .int .i64 0, .int .i64 0, .int .i64 0, .int .i64 0, .int .i64 0, .int .i64 0, .int .i64 0, .int .i64 0] 30)).setRow (P + 1) (rowc g (fun _ => 0) 0) = w2 at *
  have HP := hid hP
  clear hP Z
  go_loopw [7, 14] (fun x i wr => ∃ (k : Nat) (b : Bool) (f : Nat → Int) (L : Int), k ≤ n ∧ x = .bool b ∧ i = .int .i64 k ∧ Hid (b = anyg g (es.take k)) ∧ Hid (∀ j, f j = cntf g (es.take k) j) ∧ Hid (wr.heap[P + 1]? = some (.cells (rowc g f L) 30 (0, 0))) ∧ P + 2 ≤ wr.heap.size ∧ Hid (Below (P + 1) w2 wr))
    (fun _ i _ => n - (intOf i).toNat)
  case atStart => exact ⟨0, false, fun _ => 0, 0, by omega, rfl, rfl, hid rfl, hid (fun _ => rfl), R2, by omega, hid (Below.refl _ _)⟩
  case round =>
    clear R2
    obtain ⟨k, b, f, L, hk, rfl, rfl, A, F, R, hs, B⟩ := hrel
    have BW := hid (B2.out.trans (B.out.mono (by omega)))
    by_cases hlt : k < n
    · obtain ⟨a', c', e, _, hh⟩ := RD.out.below (w' := wr) (by rw [← HP.out]; exact BW.out)
      simp only [Value.slice.injEq] at e
      obtain ⟨rfl, _, rfl⟩ := e
      obtain ⟨q, off, rfl, _, hc⟩ := hh (by have := HN.out; omega)
      obtain ⟨h0, h1, h2, h3, h4⟩ := hc k (by have := HN.out; omega)
      have T := hid (ev_take (es := es) (k := k) (by have := HN.out; omega))
      generalize evAt es k = ev at *
      obtain ⟨kd, gg, mm, pp, vv⟩ := ev
      simp only at h0 h1 h2 h3 h4
      have B3 := hid (B.out.alloc (by omega) (.cells #[.int .i64 kd, .int .i64 gg, .int .i64 mm, .int .i64 pp, .int .i64 vv] 46))
      have R3 := hid ((Below.heap_alloc wr (.cells #[.int .i64 kd, .int .i64 gg, .int .i64 mm, .int .i64 pp, .int .i64 vv] 46) _ (by omega)).trans R.out)
      have s3 : (wr.alloc (.cells #[.int .i64 kd, .int .i64 gg, .int .i64 mm, .int .i64 pp, .int .i64 vv] 46)).heap.size = wr.heap.size + 1 := by simp
      clear B R hh hc BW
      by_cases hg : gg = g
      · subst hg
        have A2 := hid (show true = anyg gg (es.take (k + 1)) by rw [T.out, anyg_app]; simp [anyg])
        have F2 := hid (show ∀ j, addk f kd j = cntf gg (es.take (k + 1)) j from fun j => by
          rw [T.out, cntf_hit]; unfold addk; rw [F.out j])
        have FR := hid (fun j (_ : j < 8) => (show 0 ≤ f j ∧ f j ≤ 100000 by
          have h1 := cntf_range gg (es.take k) j
          have h2 := List.length_take_le k es
          rw [F.out j]; omega))
        clear A F T
        go_wp2_with fail
        refine (add_any (P + 1) gg f L kd gg mm pp vv k _ R3.out FR.out).mono ?_
        rintro e w4 ⟨rfl, r4, b4, s4⟩
        have R4 := hid r4
        have B4 := hid (B3.out.trans b4)
        have s5 : P + 2 ≤ w4.heap.size := by omega
        clear r4 b4 s4 R3 B3 s3 FR h0 h1 h2 h3 h4
        go_wp2_with fail
        go_roundw
        case rel => exact ⟨k + 1, true, addk f kd, k, by omega, rfl, by go_num, A2, F2, R4, s5, B4⟩
        case measure => simp [intOf]; omega
      · have hgn : (gg == g) = false := by simpa using hg
        have A2 := hid (show b = anyg g (es.take (k + 1)) by rw [T.out, anyg_app, A.out]; simp [anyg, hg])
        have F2 := hid (show ∀ j, f j = cntf g (es.take (k + 1)) j from fun j => by rw [T.out, cntf_miss hg]; exact F.out j)
        clear A F T hg
        go_wp2_with fail
        go_roundw
        case rel => exact ⟨k + 1, b, f, L, by omega, rfl, by go_num, A2, F2, R3, by omega, B3⟩
        case measure => simp [intOf]; omega
    · obtain rfl : k = n := by omega
      rw [List.take_of_length_le (by have := HN.out; omega)] at A F
      have ZR := hid ((B.out.block P (by omega)).trans Z2.out)
      have FE : f = cntf g es := funext F.out
      subst FE
      cases b
      · have Fz := hid (show rowc 0 (cntf g es) 0 = rowc 0 (fun _ => 0) 0 from row_eq fun j _ => cntf_none A.out.symm j)
        clear F B Z2
        have FIN := hid (show OfPost g es w (.returned (.tuple #[.agg (rowc 0 (fun _ => 0) 0), .bool false])) (wr.setRow P (rowc 0 (fun _ => 0) 0)) from
          ⟨0, 0, by rw [Fz.out, ← A.out], row_below (by have := BW.out; rw [HP.out] at this; exact this) (by rw [HP.out]; exact Nat.le_refl _) _⟩)
        clear A BW
        go_wp2_with (refine wpList_store_row rfl 30 (.tmp 4) (.tmp 29) rfl P (rowc 0 (fun _ => 0) 0) rfl rfl 30 _ ZR.out (by kernel_rfl) (by rfl) (rowc_ones _ _ _) ?_)
        refine bodyPost_ret (v := .tuple #[.agg (rowc 0 (fun _ => 0) 0), .bool false]) (results_row_tmp rfl _ _ P 30 (rowc 0 (fun _ => 0) 0) (0, 0) _ (by rfl) (setRow_heap _ _ _ _ _ _ ZR.out) Tryz.underlying30 rfl (by kernel_rfl) _ (by rfl)) rfl FIN.out
      · clear F B Z2
        have FIN := hid (show OfPost g es w (.returned (.tuple #[.agg (rowc g (cntf g es) L), .bool true])) (wr.setRow P (rowc g (cntf g es) L)) from
          ⟨g, L, by rw [← A.out], row_below (by have := BW.out; rw [HP.out] at this; exact this) (by rw [HP.out]; exact Nat.le_refl _) _⟩)
        clear A BW
        go_wp2_with (first
          | (refine wpList_load_known (by rfl) 30 (.tmp 6) rfl (P + 1) rfl 30 (rowc g (cntf g es) L) (0, 0) _ R.out Tryz.underlying30 rfl (by kernel_rfl) ?_)
          | (refine wpList_store_row rfl 30 (.tmp 4) (.tmp 30) rfl P (rowc g (cntf g es) L) rfl rfl 30 _ ZR.out (by kernel_rfl) (by rfl) (rowc_ones _ _ _) ?_))
        refine bodyPost_ret (v := .tuple #[.agg (rowc g (cntf g es) L), .bool true]) (results_row_tmp rfl _ _ P 30 (rowc g (cntf g es) L) (0, 0) _ (by rfl) (setRow_heap _ _ _ _ _ _ ZR.out) Tryz.underlying30 rfl (by kernel_rfl) _ (by rfl)) rfl FIN.out
end Go.Proofs.YtlgkjaeijceekaaGreatDoor
