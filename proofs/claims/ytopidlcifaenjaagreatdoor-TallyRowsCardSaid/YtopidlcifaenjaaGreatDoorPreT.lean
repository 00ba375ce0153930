/- What other texts are built of: Tally2, Tally3, Tally4, TlR, TlO, Tally, TlL, TlA, TlI, Maps, TlB. -/
import Derived.Test.YtopidlcifaenjaaGreatDoorPre1
import Derived.Test.YtopidlcifaenjaaGreatDoorRdE
import Derived.Test.YtopidlcifaenjaaGreatDoorBig
import Derived.Maps.AppendAt
import Derived.Laws.OwnMore
import Derived.MapKept
/-! tally.Order as a contract. -/
namespace Go.Proofs.YtopidlcifaenjaaGreatDoor
set_option linter.unusedVariables false
set_option linter.unusedSimpArgs false
set_option maxRecDepth 20000
open Go.RowKit

/-- Who was dispatched. -/
def ord (es : List Ev) : List Int := (es.filter fun e => e.1 == 2).map fun e => e.2.1
theorem ord_app (es fs : List Ev) : ord (es ++ fs) = ord es ++ ord fs := by simp [ord]
theorem ord_len (es : List Ev) : (ord es).length ≤ es.length := by
  unfold ord
  rw [List.length_map]
  exact List.length_filter_le _ _

set_option maxHeartbeats 4000000 in
theorem order_any (v : Value) (es : List Ev) (w : World) (hr : RdE w v es) (hl : es.length ≤ 1000) :
    Calls Tryz.prog 20 #[v] w (ClonePost (ord es) w) := by
  have RD := hid hr
  obtain ⟨a, c, rfl, _, _⟩ := hr
  obtain ⟨n, hn⟩ : ∃ n, n = es.length := ⟨_, rfl⟩
  have HN := hid hn
  rw [← hn] at hl ⊢
  clear hn
  have I0 := hid infoInt
  go_enter Tryz.func20, Tryz.ntmps20
  go_wp2_with fail
  go_loopw [3, 8] (fun x i wr => ∃ (k : Nat), k ≤ n ∧ i = .int .i64 k ∧ Hid (Owns wr w.heap.size x (ord (es.take k))) ∧ Hid (Below w.heap.size w wr))
    (fun _ i _ => n - (intOf i).toNat)
  case atStart => exact ⟨0, by omega, rfl, hid ⟨by simp [ord], .inl ⟨rfl, by simp [ord]⟩⟩, hid (Below.refl _ _)⟩
  case round =>
    obtain ⟨k, hk, rfl, OW, B⟩ := hrel
    by_cases hlt : k < n
    · obtain ⟨a', c', e, _, hh⟩ := RD.out.below B.out
      simp only [Value.slice.injEq] at e
      obtain ⟨rfl, _, rfl⟩ := e
      obtain ⟨q, off, rfl, _, hc⟩ := hh (by have := HN.out; omega)
      obtain ⟨h0, h1, h2, h3, h4⟩ := hc k (by have := HN.out; omega)
      have T := hid (ev_take (es := es) (k := k) (by have := HN.out; omega))
      generalize evAt es k = ev at *
      obtain ⟨kd, gg, mm, pp, vv⟩ := ev
      simp only at h0 h1 h2 h3 h4
      have hol : (ord (es.take k)).length ≤ k := Nat.le_trans (ord_len _) (List.length_take_le _ _)
      have OE := hid (show ord (es.take (k + 1)) = ord (es.take k) ++ (if kd = 2 then [gg] else []) by
        rw [T.out, ord_app]; congr 1; by_cases h : kd = 2 <;> simp [ord, h])
      generalize ord (es.take k) = os at *
      have B2 := hid (B.out.alloc B.out.size (.cells #[.int .i64 kd, .int .i64 gg, .int .i64 mm, .int .i64 pp, .int .i64 vv] 43))
      have hbs := B.out.size
      have hO2 : (wr.alloc (.cells #[.int .i64 kd, .int .i64 gg, .int .i64 mm, .int .i64 pp, .int .i64 vv] 43)).ownsRow w.heap.size 3 1 _ os.length (os.map (Value.int .i64)) := OW.out.alloc _
      have OWL := hid OW.out.lt
      have hsz : (wr.alloc (.cells #[.int .i64 kd, .int .i64 gg, .int .i64 mm, .int .i64 pp, .int .i64 vv] 43)).heap.size = wr.heap.size + 1 := by simp
      clear B hh hc OW
      by_cases hkd : kd = 2
      · have OE2 := hid (OE.out.trans (by rw [if_pos hkd]))
        subst hkd
        obtain ⟨i0, hi, hz0, hz1, hz2⟩ := info_parts I0.out
        have hO3 := hO2.alloc (.cells #[.int .i64 gg] 3)
        clear hO2
        go_wp2_with (at_builtin; refine wpList_append_own_at _ rfl _ _ 54 rfl w.heap.size 3 i0 (.int .i64 0) 1 8 Tryz.underlying54 hi hz0 hz1 hz2 rfl (by decide) _ _ _ rfl hO3 ⟨wr.heap.size + 1, 0, none⟩ 1 1 [.int .i64 gg] rfl rfl ?c1 ?c2 ?c3 ?c4 ?c5 ?_)
        case c2 => rfl
        case c3 => unfold maxLen; omega
        case c4 => omega
        case c5 => omega
        intro v' w6 hown6 hgrow _ _
        have O6 := hid (show Owns w6 w.heap.size v' (ord (es.take (k + 1))) by
          rw [OE2.out]
          unfold Owns
          rw [List.length_append, List.map_append]
          exact hown6)
        have B6 := hid ((B2.out.alloc (by omega) (.cells #[.int .i64 gg] 3)).grown hgrow (by simp; omega) (fun q hq => (OWL.out q hq).1))
        clear hown6 hgrow hO3 OWL hi hz0 hz1 hz2 OE B2
        go_wp2
        go_roundw
        case rel => exact ⟨k + 1, by omega, by go_num, O6, B6⟩
        case measure => simp [intOf]; omega
      · have hkn : (kd == 2) = false := by simpa using hkd
        have O2 := hid (show Owns _ w.heap.size _ (ord (es.take (k + 1))) by rw [OE.out, if_neg hkd, List.append_nil]; exact hO2)
        clear hkd OE hO2
        go_wp2_with fail
        go_roundw
        case rel => exact ⟨k + 1, by omega, by go_num, O2, B2⟩
        case measure => simp [intOf]; omega
    · obtain rfl : k = n := by omega
      rw [List.take_of_length_le (by have := HN.out; omega)] at OW
      have FIN := hid (show ClonePost (ord es) w (.returned _) wr from ⟨_, rfl, OW.out, B.out⟩)
      clear OW B
      go_wp2
      go_ret
      exact FIN.out
end Go.Proofs.YtopidlcifaenjaaGreatDoor
/-! tally.Row.add and tally.Of as contracts. -/
namespace Go.Proofs.YtopidlcifaenjaaGreatDoor
set_option linter.unusedVariables false
set_option linter.unusedSimpArgs false
set_option maxRecDepth 20000
open Go.RowKit

def rowc (g : Int) (f : Nat → Int) (l : Int) : Array Value := #[.int .i64 g, .int .i64 (f 0), .int .i64 (f 1), .int .i64 (f 2), .int .i64 (f 3), .int .i64 (f 4), .int .i64 (f 5), .int .i64 (f 6), .int .i64 (f 7), .int .i64 l]
def upf (f : Nat → Int) (k : Nat) (x : Int) : Nat → Int := fun j => if j = k then x else f j
theorem rowc_get (g : Int) (f : Nat → Int) (l : Int) (k : Nat) (h : k < 8) : (rowc g f l)[1 + k]? = some (.int .i64 (f k)) := by
  match k, h with
  | 0, _ => rfl
  | 1, _ => rfl
  | 2, _ => rfl
  | 3, _ => rfl
  | 4, _ => rfl
  | 5, _ => rfl
  | 6, _ => rfl
  | 7, _ => rfl
theorem rowc_set (g : Int) (f : Nat → Int) (l : Int) (k : Nat) (h : k < 8) (x : Int) : (rowc g f l).setIfInBounds (1 + k) (.int .i64 x) = rowc g (upf f k x) l := by
  match k, h with
  | 0, _ => rfl
  | 1, _ => rfl
  | 2, _ => rfl
  | 3, _ => rfl
  | 4, _ => rfl
  | 5, _ => rfl
  | 6, _ => rfl
  | 7, _ => rfl
theorem rowc_last (g : Int) (f : Nat → Int) (l x : Int) : (rowc g f l).setIfInBounds 9 (.int .i64 x) = rowc g f x := rfl
/-- One more event of a kind. -/
def addk (f : Nat → Int) (kd : Int) : Nat → Int := fun j => if (j : Int) = kd then f j + 1 else f j
def AddPost (p : Nat) (g : Int) (f : Nat → Int) (at' : Int) (w : World) (e : Ending) (w' : World) : Prop :=
  e = .returned (.tuple #[]) ∧ w'.heap[p]? = some (.cells (rowc g f at') 32 (0, 0)) ∧ Below p w w' ∧ w.heap.size ≤ w'.heap.size

theorem row_eq {g : Int} {f f' : Nat → Int} {l : Int} (h : ∀ j, j < 8 → f j = f' j) : rowc g f l = rowc g f' l := by
  unfold rowc
  rw [h 0 (by omega), h 1 (by omega), h 2 (by omega), h 3 (by omega), h 4 (by omega), h 5 (by omega), h 6 (by omega), h 7 (by omega)]
set_option maxHeartbeats 4000000 in
theorem add_any (p : Nat) (g : Int) (f : Nat → Int) (l : Int) (kd gg mm pp vv : Int) (at' : Int) (w : World) (hp : w.heap[p]? = some (.cells (rowc g f l) 32 (0, 0))) (hf : ∀ j, j < 8 → 0 ≤ f j ∧ f j ≤ 100000) :
    Calls Tryz.prog 22 #[.pointer (some ⟨p, 0, none⟩), .agg #[.int .i64 kd, .int .i64 gg, .int .i64 mm, .int .i64 pp, .int .i64 vv], .int .i64 at'] w (AddPost p g (addk f kd) at' w) := by
  have hpl := blk_lt hp
  by_cases hk : 0 ≤ kd ∧ kd < 8
  · obtain ⟨k, rfl⟩ : ∃ k : Nat, kd = k := ⟨kd.toNat, by omega⟩
    have hk8 : k < 8 := by omega
    obtain ⟨hf0, hf1⟩ := hf k hk8
    obtain ⟨x, hx⟩ : ∃ x, x = f k := ⟨_, rfl⟩
    rw [← hx] at hf0 hf1
    have c0 : w.cell? ⟨p, 1 + k, none⟩ = some (.int .i64 x) := by rw [hx]; exact blk_cell hp (rowc_get g f l k hk8)
    have f0 : w.frozen? ⟨p, 1 + k, none⟩ = false := blk_free hp
    have hk1 : (0 : Int) ≤ k := by omega
    have hk2 : (k : Int) < 8 := by omega
    have hb1 := blk_set (i := 1 + k) (.int .i64 (x + 1)) hp (rowc_set g f l k hk8 (x + 1))
    have c9 : (w.setCell ⟨p, 1 + k, none⟩ (.int .i64 (x + 1))).cell? ⟨p, 9, none⟩ = some (.int .i64 l) := blk_cell hb1 rfl
    have f9 : (w.setCell ⟨p, 1 + k, none⟩ (.int .i64 (x + 1))).frozen? ⟨p, 9, none⟩ = false := blk_free hb1
    have hb2 := blk_set (i := 9) (.int .i64 at') hb1 (rowc_last g (upf f k (x + 1)) l at')
    have hfe : rowc g (upf f k (x + 1)) at' = rowc g (addk f k) at' := row_eq fun j _ => by
      unfold upf addk
      by_cases hj : j = k
      · subst hj; rw [if_pos rfl, if_pos rfl, hx]
      · rw [if_neg hj, if_neg (by omega)]
    rw [hfe] at hb2
    have FIN := hid (show AddPost p g (addk f k) at' w (.returned (.tuple #[])) (((w.setCell ⟨p, 1 + k, none⟩ (.int .i64 (x + 1))).setCell ⟨p, 9, none⟩ (.int .i64 at')).alloc (.cells #[.int .i64 k, .int .i64 gg, .int .i64 mm, .int .i64 pp, .int .i64 vv] 43)).drew from
      ⟨rfl, (Below.heap_alloc _ _ _ (by simpa using hpl)).trans hb2, ((((Below.refl p w).setCell (Nat.le_refl _) _).setCell (Nat.le_refl _) _).alloc (by simp; omega) _).trans (Quiet.below ⟨1, rfl⟩ _), by simp⟩)
    clear hx hf hp hb1 hb2 hfe
    go_enter Tryz.func22, Tryz.ntmps22
    go_wp2_with fail
    go_region
    all_goals
      go_wp2
      go_end0
      exact FIN.out
  · have f0 : w.frozen? ⟨p, 9, none⟩ = false := blk_free hp
    have c0 : w.cell? ⟨p, 9, none⟩ = some (.int .i64 l) := blk_cell hp rfl
    have hb2 := blk_set (i := 9) (.int .i64 at') hp (rowc_last g f l at')
    have hfe : rowc g f at' = rowc g (addk f kd) at' := row_eq fun j _ => by
      unfold addk
      rw [if_neg (by omega)]
    rw [hfe] at hb2
    have FIN := hid (show AddPost p g (addk f kd) at' w (.returned (.tuple #[])) ((w.setCell ⟨p, 9, none⟩ (.int .i64 at')).alloc (.cells #[.int .i64 kd, .int .i64 gg, .int .i64 mm, .int .i64 pp, .int .i64 vv] 43)) from
      ⟨rfl, (Below.heap_alloc _ _ _ (by simpa using hpl)).trans hb2, ((Below.refl p w).setCell (Nat.le_refl _) _).alloc (by simp; omega) _, by simp⟩)
    clear hf hp hb2 hfe
    rcases (show kd < 0 ∨ (0 ≤ kd ∧ 8 ≤ kd) by omega) with h1 | ⟨h1, h2⟩
    · clear hk
      go_enter Tryz.func22, Tryz.ntmps22
      go_wp2
      go_end0
      exact FIN.out
    · clear hk
      go_enter Tryz.func22, Tryz.ntmps22
      go_wp2
      go_end0
      exact FIN.out
end Go.Proofs.YtopidlcifaenjaaGreatDoor
/-! tally.Of as a contract. -/
namespace Go.Proofs.YtopidlcifaenjaaGreatDoor
set_option linter.unusedVariables false
set_option linter.unusedSimpArgs false
set_option maxRecDepth 20000
open Go.RowKit
/-- How many events of a goroutine, of a kind. -/
def cntf (g : Int) (es : List Ev) (j : Nat) : Int := ((es.filter fun e => e.2.1 == g && e.1 == (j : Int)).length : Nat)
def anyg (g : Int) (es : List Ev) : Bool := es.any fun e => e.2.1 == g
theorem cntf_app (g : Int) (es fs : List Ev) (j : Nat) : cntf g (es ++ fs) j = cntf g es j + cntf g fs j := by simp [cntf]
theorem anyg_app (g : Int) (es fs : List Ev) : anyg g (es ++ fs) = (anyg g es || anyg g fs) := by simp [anyg]
theorem cntf_range (g : Int) (es : List Ev) (j : Nat) : 0 ≤ cntf g es j ∧ cntf g es j ≤ es.length := by
  unfold cntf
  have := List.length_filter_le (fun e : Ev => e.2.1 == g && e.1 == (j : Int)) es
  omega
theorem cntf_none {g : Int} {es : List Ev} (h : anyg g es = false) (j : Nat) : cntf g es j = 0 := by
  unfold cntf
  rw [List.filter_eq_nil_iff.2]
  · rfl
  · intro e he
    simp only [anyg, List.any_eq_false] at h
    simpa using fun h1 _ => h e he (by simpa using h1)
theorem cntf_hit {g : Int} {es : List Ev} {kd mm pp vv : Int} (j : Nat) : cntf g (es ++ [(kd, g, mm, pp, vv)]) j = addk (cntf g es) kd j := by
  rw [cntf_app]
  unfold addk
  by_cases h : (j : Int) = kd
  · rw [if_pos h]; simp [cntf, h]
  · rw [if_neg h]
    have : ¬ kd = (j : Int) := fun e => h e.symm
    simp [cntf, this]
theorem cntf_miss {g : Int} {es : List Ev} {kd gg mm pp vv : Int} (h : gg ≠ g) : cntf g (es ++ [(kd, gg, mm, pp, vv)]) = cntf g es := by
  funext j
  rw [cntf_app]; simp [cntf, h]
def OfPost (g : Int) (es : List Ev) (w : World) (e : Ending) (w' : World) : Prop :=
  ∃ G L, e = .returned (.tuple #[.agg (rowc G (cntf g es) L), .bool (anyg g es)]) ∧ Below w.heap.size w w'
theorem rowc_ones (g : Int) (f : Nat → Int) (l : Int) : (rowc g f l).all (·.oneCell') = true := by simp [rowc, Value.oneCell']

theorem results_row_tmp {P : Program} {fn : Func} {p u : Tmp} {ty : TypeId} (h : fn.results = #[.cell p ty, .tmp u]) (tmps : Array Value) (w : World) (g : Nat) (t : TypeId) (cs : Array Value) (fr : Nat × Nat) (d : TypeDesc)
    (hp : tmps.getD p undef = .pointer (some ⟨g, 0, none⟩)) (hg : w.heap[g]? = some (.cells cs t fr))
    (hu : P.underlying ty = some d) (hd : (match d with | .struct _ | .array _ _ => true | _ => false) = true) (hi : (P.info? ty).map (·.size) = some cs.size) (b : Value) (hb : tmps.getD u undef = b) :
    (results fn tmps).run P w = .ok (.tuple #[.agg cs, b]) w := by
  rw [results_cell_tmp h, hp, hb]
  simp [asAddr, run_loadVar_row w g t ty cs fr d hg hu hd hi, Result.andThen]

set_option maxHeartbeats 4000000 in
theorem tof_any (v : Value) (es : List Ev) (g : Int) (w : World) (hr : RdE w v es) (hl : es.length ≤ 1000) :
    Calls Tryz.prog 9 #[v, .int .i64 g] w (OfPost g es w) := by
  have RD := hid hr
  obtain ⟨a, c, rfl, _, _⟩ := hr
  obtain ⟨n, hn⟩ : ∃ n, n = es.length := ⟨_, rfl⟩
  have HN := hid hn
  rw [← hn] at hl ⊢
  clear hn
  obtain ⟨P, hP⟩ : ∃ P, P = w.heap.size := ⟨_, rfl⟩
  have Z := hid (show rowc 0 (fun _ => 0) 0 = #[.int .i64 0, .int .i64 0, .int .i64 0, .int .i64 0, .int .i64 0, .int .i64 0, .int .i64 0, .int .i64 0, .int .i64 0, .int .i64 0] from rfl)
  go_enter Tryz.func9, Tryz.ntmps9
  go_wp2_with (refine wpList_store_row rfl 32 (.tmp 6) (.tmp 11) rfl (w.heap.size + 1) (rowc g (fun _ => 0) 0) rfl rfl 32 _ (heap_alloc2_new w _ _) (by kernel_rfl) (by rfl) (rowc_ones _ _ _) ?_)
  have B2 := hid (show Below P w (((w.alloc (.cells (rowc 0 (fun _ => 0) 0) 32)).alloc (.cells (rowc 0 (fun _ => 0) 0) 32)).setRow (w.heap.size + 1) (rowc g (fun _ => 0) 0)) from
    row_below (by rw [hP]; exact ((Below.refl _ _).alloc (Nat.le_refl _) _).alloc (by simp) _) (by omega) _)
  have R2 := hid (show (((w.alloc (.cells (rowc 0 (fun _ => 0) 0) 32)).alloc (.cells (rowc 0 (fun _ => 0) 0) 32)).setRow (w.heap.size + 1) (rowc g (fun _ => 0) 0)).heap[P + 1]? = some (.cells (rowc g (fun _ => 0) 0) 32 (0, 0)) from by
    rw [hP]; exact setRow_heap _ _ _ _ _ _ (heap_alloc2_new w _ _))
  have Z2 := hid (show (((w.alloc (.cells (rowc 0 (fun _ => 0) 0) 32)).alloc (.cells (rowc 0 (fun _ => 0) 0) 32)).setRow (w.heap.size + 1) (rowc g (fun _ => 0) 0)).heap[P]? = some (.cells (rowc 0 (fun _ => 0) 0) 32 (0, 0)) from by
    rw [hP, row_other _ _ _ _ (by omega)]; exact heap_alloc2_old w _ _)
  have s2 : (((w.alloc (.cells (rowc 0 (fun _ => 0) 0) 32)).alloc (.cells (rowc 0 (fun _ => 0) 0) 32)).setRow (w.heap.size + 1) (rowc g (fun _ => 0) 0)).heap.size = P + 2 := by rw [row_size]; simp [hP]
  rw [Z.out] at B2 R2 Z2 s2
  rw [← hP]
  rw [← hP] at B2 R2 Z2 s2
  generalize ((w.alloc (.cells #[.int .i64 0, .int .i64 0, .int .i64 0, .int .i64 0, .int .i64 0, .int .i64 0, .int .i64 0, .int .i64 0, .int .i64 0, .int .i64 0] 32)).alloc (.cells #[.int .i64 0, .int .i64 0, .int .i64 0, .int .i64 0, .int .i64 0, .int .i64 0, .int .i64 0, .int .i64 0, .int .i64 0, .int .i64 0] 32)).setRow (P + 1) (rowc g (fun _ => 0) 0) = w2 at *
  have HP := hid hP
  clear hP Z
  go_loopw [7, 14] (fun x i wr => ∃ (k : Nat) (b : Bool) (f : Nat → Int) (L : Int), k ≤ n ∧ x = .bool b ∧ i = .int .i64 k ∧ Hid (b = anyg g (es.take k)) ∧ Hid (∀ j, f j = cntf g (es.take k) j) ∧ Hid (wr.heap[P + 1]? = some (.cells (rowc g f L) 32 (0, 0))) ∧ P + 2 ≤ wr.heap.size ∧ Hid (Below (P + 1) w2 wr))
    (fun _ i _ => n - (intOf i).toNat)
  case atStart => exact ⟨0, false, fun _ => 0, 0, by omega, rfl, rfl, hid rfl, hid (fun _ => rfl), R2, by omega, hid (Below.refl _ _)⟩
  case round =>
    clear R2
    obtain ⟨k, b, f, L, hk, rfl, rfl, A, F, R, hs, B⟩ := hrel
    have BW := hid (B2.out.trans (B.out.mono (by omega)))
    by_cases hlt : k < n
    · obtain ⟨a', c', e, _, hh⟩ := RD.out.below (w' := wr) (by rw [← HP.out]; exact BW.out)
      simp only [Value.slice.injEq] at e
      obtain ⟨rfl, _, rfl⟩ := e
      obtain ⟨q, off, rfl, _, hc⟩ := hh (by have := HN.out; omega)
      obtain ⟨h0, h1, h2, h3, h4⟩ := hc k (by have := HN.out; omega)
      have T := hid (ev_take (es := es) (k := k) (by have := HN.out; omega))
      generalize evAt es k = ev at *
      obtain ⟨kd, gg, mm, pp, vv⟩ := ev
      simp only at h0 h1 h2 h3 h4
      have B3 := hid (B.out.alloc (by omega) (.cells #[.int .i64 kd, .int .i64 gg, .int .i64 mm, .int .i64 pp, .int .i64 vv] 43))
      have R3 := hid ((Below.heap_alloc wr (.cells #[.int .i64 kd, .int .i64 gg, .int .i64 mm, .int .i64 pp, .int .i64 vv] 43) _ (by omega)).trans R.out)
      have s3 : (wr.alloc (.cells #[.int .i64 kd, .int .i64 gg, .int .i64 mm, .int .i64 pp, .int .i64 vv] 43)).heap.size = wr.heap.size + 1 := by simp
      clear B R hh hc BW
      by_cases hg : gg = g
      · subst hg
        have A2 := hid (show true = anyg gg (es.take (k + 1)) by rw [T.out, anyg_app]; simp [anyg])
        have F2 := hid (show ∀ j, addk f kd j = cntf gg (es.take (k + 1)) j from fun j => by
          rw [T.out, cntf_hit]; unfold addk; rw [F.out j])
        have FR := hid (fun j (_ : j < 8) => (show 0 ≤ f j ∧ f j ≤ 100000 by
          have h1 := cntf_range gg (es.take k) j
          have h2 := List.length_take_le k es
          rw [F.out j]; omega))
        clear A F T
        go_wp2_with fail
        refine (add_any (P + 1) gg f L kd gg mm pp vv k _ R3.out FR.out).mono ?_
        rintro e w4 ⟨rfl, r4, b4, s4⟩
        have R4 := hid r4
        have B4 := hid (B3.out.trans b4)
        have s5 : P + 2 ≤ w4.heap.size := by omega
        clear r4 b4 s4 R3 B3 s3 FR h0 h1 h2 h3 h4
        go_wp2_with fail
        go_roundw
        case rel => exact ⟨k + 1, true, addk f kd, k, by omega, rfl, by go_num, A2, F2, R4, s5, B4⟩
        case measure => simp [intOf]; omega
      · have hgn : (gg == g) = false := by simpa using hg
        have A2 := hid (show b = anyg g (es.take (k + 1)) by rw [T.out, anyg_app, A.out]; simp [anyg, hg])
        have F2 := hid (show ∀ j, f j = cntf g (es.take (k + 1)) j from fun j => by rw [T.out, cntf_miss hg]; exact F.out j)
        clear A F T hg
        go_wp2_with fail
        go_roundw
        case rel => exact ⟨k + 1, b, f, L, by omega, rfl, by go_num, A2, F2, R3, by omega, B3⟩
        case measure => simp [intOf]; omega
    · obtain rfl : k = n := by omega
      rw [List.take_of_length_le (by have := HN.out; omega)] at A F
      have ZR := hid ((B.out.block P (by omega)).trans Z2.out)
      have FE : f = cntf g es := funext F.out
      subst FE
      cases b
      · have Fz := hid (show rowc 0 (cntf g es) 0 = rowc 0 (fun _ => 0) 0 from row_eq fun j _ => cntf_none A.out.symm j)
        clear F B Z2
        have FIN := hid (show OfPost g es w (.returned (.tuple #[.agg (rowc 0 (fun _ => 0) 0), .bool false])) (wr.setRow P (rowc 0 (fun _ => 0) 0)) from
          ⟨0, 0, by rw [Fz.out, ← A.out], row_below (by have := BW.out; rw [HP.out] at this; exact this) (by rw [HP.out]; exact Nat.le_refl _) _⟩)
        clear A BW
        go_wp2_with (refine wpList_store_row rfl 32 (.tmp 4) (.tmp 29) rfl P (rowc 0 (fun _ => 0) 0) rfl rfl 32 _ ZR.out (by kernel_rfl) (by rfl) (rowc_ones _ _ _) ?_)
        refine bodyPost_ret (v := .tuple #[.agg (rowc 0 (fun _ => 0) 0), .bool false]) (results_row_tmp rfl _ _ P 32 (rowc 0 (fun _ => 0) 0) (0, 0) _ (by rfl) (setRow_heap _ _ _ _ _ _ ZR.out) Tryz.underlying32 rfl (by kernel_rfl) _ (by rfl)) rfl FIN.out
      · clear F B Z2
        have FIN := hid (show OfPost g es w (.returned (.tuple #[.agg (rowc g (cntf g es) L), .bool true])) (wr.setRow P (rowc g (cntf g es) L)) from
          ⟨g, L, by rw [← A.out], row_below (by have := BW.out; rw [HP.out] at this; exact this) (by rw [HP.out]; exact Nat.le_refl _) _⟩)
        clear A BW
        go_wp2_with (first
          | (refine wpList_load_known (by rfl) 32 (.tmp 6) rfl (P + 1) rfl 32 (rowc g (cntf g es) L) (0, 0) _ R.out Tryz.underlying32 rfl (by kernel_rfl) ?_)
          | (refine wpList_store_row rfl 32 (.tmp 4) (.tmp 30) rfl P (rowc g (cntf g es) L) rfl rfl 32 _ ZR.out (by kernel_rfl) (by rfl) (rowc_ones _ _ _) ?_))
        refine bodyPost_ret (v := .tuple #[.agg (rowc g (cntf g es) L), .bool true]) (results_row_tmp rfl _ _ P 32 (rowc g (cntf g es) L) (0, 0) _ (by rfl) (setRow_heap _ _ _ _ _ _ ZR.out) Tryz.underlying32 rfl (by kernel_rfl) _ (by rfl)) rfl FIN.out
end Go.Proofs.YtopidlcifaenjaaGreatDoor
/-! The document's tally: how many events of a kind, the last one's place. -/
namespace Go.Proofs.YtopidlcifaenjaaGreatDoor
open Go.RowKit
set_option linter.unusedVariables false
set_option linter.unusedSimpArgs false
set_option maxRecDepth 20000
/-- How many events of a goroutine, of a kind. -/
def cnk (g k : Int) (es : List Ev) : Int := ((es.filter fun e => e.2.1 == g && e.1 == k).length : Nat)
theorem cnk_snoc (g k : Int) (es : List Ev) (a b c d e : Int) : cnk g k (es ++ [(a, b, c, d, e)]) = cnk g k es + (if b = g ∧ a = k then 1 else 0) := by
  simp only [cnk, List.filter_append, List.length_append, List.filter_cons, List.filter_nil]
  by_cases h1 : b = g <;> by_cases h2 : a = k <;> simp [h1, h2]
theorem cnk_rng (g k : Int) (es : List Ev) : 0 ≤ cnk g k es ∧ cnk g k es ≤ es.length := by
  have := List.length_filter_le (fun e : Ev => e.2.1 == g && e.1 == k) es
  unfold cnk
  omega
theorem cnk_cntf (g : Int) (j : Nat) (es : List Ev) : cnk g j es = cntf g es j := rfl
set_option maxHeartbeats 4000000 in
theorem rcount_any (v : Value) (es : List Ev) (g q : Int) (w : World) (hr : RdE w v es) (hl : es.length ≤ 1000) :
    Calls Tryz.prog 23 #[v, .int .i64 g, .int .i64 q] w fun e w' => e = .returned (.int .i64 (cnk g q es)) ∧ Below w.heap.size w w' := by
  have RD := hid hr
  obtain ⟨a, c, rfl, _, _⟩ := hr
  obtain ⟨n, hn⟩ : ∃ n, n = es.length := ⟨_, rfl⟩
  have HN := hid hn
  rw [← hn] at hl ⊢
  have R := hid (fun k => cnk_rng g q (es.take k))
  clear hn
  go_enter Tryz.func23, Tryz.ntmps23
  go_wp2_with fail
  go_loopw [7, 12] (fun x i wr => ∃ (k : Nat) (o : Int), k ≤ n ∧ x = .int .i64 o ∧ i = .int .i64 k ∧ Hid (cnk g q (es.take k) = o) ∧ Hid (Below w.heap.size w wr))
    (fun _ i _ => n - (intOf i).toNat)
  case atStart => exact ⟨0, 0, by omega, rfl, rfl, hid rfl, hid (Below.refl _ _)⟩
  case round =>
    obtain ⟨k, o, hk, rfl, rfl, F, B⟩ := hrel
    have hR := R.out k
    rw [F.out, List.length_take] at hR
    have r1 : 0 ≤ o := hR.1
    have r2 : o ≤ 1000 := by have := hR.2; omega
    clear hR
    by_cases hlt : k < n
    · obtain ⟨a', c', e, _, hh⟩ := RD.out.below B.out
      simp only [Value.slice.injEq] at e
      obtain ⟨rfl, e9, rfl⟩ := e
      clear e9
      obtain ⟨b, off, rfl, _, hc⟩ := hh (by have := HN.out; omega)
      obtain ⟨h0, h1, h2, h3, h4⟩ := hc k (by have := HN.out; omega)
      have T := hid (ev_take (es := es) (k := k) (by have := HN.out; omega))
      generalize evAt es k = ev at *
      obtain ⟨kd, gg, mm, pp, vv⟩ := ev
      simp only at h0 h1 h2 h3 h4
      have B2 := hid (B.out.alloc B.out.size (.cells #[.int .i64 kd, .int .i64 gg, .int .i64 mm, .int .i64 pp, .int .i64 vv] 57))
      have S2 := hid (show cnk g q (es.take (k + 1)) = o + (if gg = g ∧ kd = q then 1 else 0) by rw [T.out, cnk_snoc, F.out])
      clear B hh hc F T
      by_cases hg : gg = g
      · have hgb : (gg == g) = true := by simpa using hg
        by_cases hq : kd = q
        · have hqb : (kd == q) = true := by simpa using hq
          have F2 := hid (show cnk g q (es.take (k + 1)) = o + 1 by rw [S2.out, if_pos ⟨hg, hq⟩])
          clear S2 hg hq
          go_wp2_with fail
          go_roundw
          case rel => exact ⟨k + 1, o + 1, by omega, rfl, by go_num, F2, B2⟩
          case measure => simp [intOf]; omega
        · have hqb : (kd == q) = false := by simpa using hq
          have F2 := hid (show cnk g q (es.take (k + 1)) = o by rw [S2.out, if_neg (fun h => hq h.2), Int.add_zero])
          clear S2 hg hq
          go_wp2_with fail
          go_roundw
          case rel => exact ⟨k + 1, o, by omega, rfl, by go_num, F2, B2⟩
          case measure => simp [intOf]; omega
      · have hgb : (gg == g) = false := by simpa using hg
        have F2 := hid (show cnk g q (es.take (k + 1)) = o by rw [S2.out, if_neg (fun h => hg h.1), Int.add_zero])
        clear S2 hg
        go_wp2_with fail
        go_roundw
        case rel => exact ⟨k + 1, o, by omega, rfl, by go_num, F2, B2⟩
        case measure => simp [intOf]; omega
    · obtain rfl : k = n := by omega
      have FN := hid (show cnk g q es = o by have h := F.out; rwa [List.take_of_length_le (by have := HN.out; omega)] at h)
      clear F R
      go_wp2
      go_ret
      exact ⟨by rw [FN.out]; rfl, B.out⟩
/-- The place of a goroutine's last event, or -1. -/
def LastIs (g : Int) (es : List Ev) (x : Int) : Prop :=
  (x = -1 ∧ ∀ j, j < es.length → (evAt es j).2.1 ≠ g) ∨ ∃ q : Nat, x = q ∧ q < es.length ∧ (evAt es q).2.1 = g ∧ ∀ j, q < j → j < es.length → (evAt es j).2.1 ≠ g
theorem LastIs.unique {g x y : Int} {es : List Ev} (h1 : LastIs g es x) (h2 : LastIs g es y) : x = y := by
  rcases h1 with ⟨rfl, h⟩ | ⟨q, rfl, hq, hg, hn⟩ <;> rcases h2 with ⟨rfl, h'⟩ | ⟨q', rfl, hq', hg', hn'⟩
  · rfl
  · exact absurd hg' (h q' hq')
  · exact absurd hg (h' q hq)
  · rcases Nat.lt_trichotomy q q' with l | l | l
    · exact absurd hg' (hn q' l hq')
    · rw [l]
    · exact absurd hg (hn' q l hq)
def RlP (g : Int) (es : List Ev) (w : World) (e : Ending) (w' : World) : Prop := ∃ x, e = .returned (.int .i64 x) ∧ LastIs g es x ∧ w' = w
set_option maxHeartbeats 4000000 in
theorem rlast_any (v : Value) (es : List Ev) (g : Int) (w : World) (hr : RdE w v es) (hl : es.length ≤ 1000) :
    Calls Tryz.prog 10 #[v, .int .i64 g] w (RlP g es w) := by
  have RD := hid hr
  obtain ⟨a, c, rfl, _, _⟩ := hr
  obtain ⟨n, hn⟩ : ∃ n, n = es.length := ⟨_, rfl⟩
  have HN := hid hn
  rw [← hn] at hl ⊢
  have hw : IntKind.i64.wrap ((n : Int) - 1) = (n : Int) - 1 := by
    have hb : IntKind.i64.bits = 64 := rfl
    have hs : IntKind.i64.signed = true := rfl
    simp [IntKind.wrap, hb, hs]; split <;> omega
  clear hn
  go_enter Tryz.func10, Tryz.ntmps10
  go_wp2_with fail
  go_loopw [5] (fun x wr => ∃ j : Nat, j ≤ n ∧ x = .int .i64 ((j : Int) - 1) ∧ Hid (∀ i, j ≤ i → i < n → (evAt es i).2.1 ≠ g) ∧ wr = w) (fun x _ => (intOf x + 1).toNat)
  case atStart => exact ⟨n, Nat.le_refl _, rfl, hid (fun i h1 h2 => by omega), rfl⟩
  case round =>
    obtain ⟨j, hj, hv, NO, rfl⟩ := hrel
    rcases j with _ | q
    · have hv2 := hv.trans (show Value.int .i64 ((0 : Nat) - 1 : Int) = .int .i64 (-1) from rfl)
      clear hv
      subst hv2
      have FN := hid (show RlP g es wr (.returned (.int .i64 (-1))) wr from ⟨-1, rfl, .inl ⟨rfl, fun i hi => NO.out i (Nat.zero_le _) (by have := HN.out; omega)⟩, rfl⟩)
      clear NO
      go_wp2
      go_ret
      exact FN.out
    · have hv2 := hv.trans (show Value.int .i64 (((q + 1 : Nat) : Int) - 1) = .int .i64 (q : Int) by congr 1; omega)
      clear hv
      subst hv2
      obtain ⟨a', c', e, _, hh⟩ := RD.out
      simp only [Value.slice.injEq] at e
      obtain ⟨rfl, e9, rfl⟩ := e
      clear e9
      obtain ⟨b, off, rfl, _, hc⟩ := hh (by have := HN.out; omega)
      obtain ⟨h0, h1, h2, h3, h4⟩ := hc q (by have := HN.out; omega)
      have hq0 : (0 : Int) ≤ (q : Int) := by omega
      have hq1 : (q : Int) < (n : Int) := by omega
      have hwq : IntKind.i64.wrap ((q : Int) - 1) = (q : Int) - 1 := by
        have hb : IntKind.i64.bits = 64 := rfl
        have hs : IntKind.i64.signed = true := rfl
        simp [IntKind.wrap, hb, hs]; split <;> omega
      obtain ⟨gg, hgg⟩ : ∃ gg, gg = (evAt es q).2.1 := ⟨_, rfl⟩
      rw [← hgg] at h1
      have HG := hid hgg
      clear h0 h2 h3 h4 hc hh hgg hw
      by_cases hg : gg = g
      · have hgb : (gg == g) = true := by simpa using hg
        have FN := hid (show RlP g es wr (.returned (.int .i64 (q : Int))) wr from ⟨q, rfl, .inr ⟨q, rfl, by have := HN.out; omega, by rw [← HG.out]; exact hg, fun i h1 h2 => NO.out i (by omega) (by have := HN.out; omega)⟩, rfl⟩)
        clear NO hg HG
        go_wp2
        go_ret
        exact FN.out
      · have hgb : (gg == g) = false := by simpa using hg
        have N2 := hid (show ∀ i, q ≤ i → i < n → (evAt es i).2.1 ≠ g from fun i h1 h2 => by
          rcases Nat.eq_or_lt_of_le h1 with h | h
          · rw [← h, ← HG.out]; exact hg
          · exact NO.out i h h2)
        clear NO hg HG
        go_wp2_with fail
        go_roundw
        case rel => exact ⟨q, by omega, rfl, N2, by first | trivial | rfl⟩
        case measure => first | (simp [intOf]; done) | (simp [intOf]; omega)
end Go.Proofs.YtopidlcifaenjaaGreatDoor
/-! tally.Of, with the last one's place. -/
namespace Go.Proofs.YtopidlcifaenjaaGreatDoor
open Go.RowKit
set_option linter.unusedVariables false
set_option linter.unusedSimpArgs false
set_option maxRecDepth 20000
theorem evAt_app (xs : List Ev) (e : Ev) (j : Nat) (h : j < xs.length) : evAt (xs ++ [e]) j = evAt xs j := by simp [evAt, List.getD, List.getElem?_append_left h]
theorem evAt_end (xs : List Ev) (e : Ev) : evAt (xs ++ [e]) xs.length = e := by simp [evAt]
theorem LastIs.hit (g : Int) (xs : List Ev) (e : Ev) (h : e.2.1 = g) : LastIs g (xs ++ [e]) xs.length :=
  .inr ⟨xs.length, rfl, by simp, by rw [evAt_end]; exact h, fun j h1 h2 => by simp at h2; omega⟩
theorem LastIs.miss {g L : Int} {xs : List Ev} (hl : LastIs g xs L) (e : Ev) (h : e.2.1 ≠ g) : LastIs g (xs ++ [e]) L := by
  rcases hl with ⟨rfl, hn⟩ | ⟨q, rfl, hq, hg, hn⟩
  · refine .inl ⟨rfl, fun j hj => ?_⟩
    rcases Nat.lt_or_ge j xs.length with l | l
    · rw [evAt_app _ _ _ l]; exact hn j l
    · obtain rfl : j = xs.length := by simp at hj; omega
      rw [evAt_end]; exact h
  · refine .inr ⟨q, rfl, by simp; omega, by rw [evAt_app _ _ _ hq]; exact hg, fun j h1 h2 => ?_⟩
    rcases Nat.lt_or_ge j xs.length with l | l
    · rw [evAt_app _ _ _ l]; exact hn j h1 l
    · obtain rfl : j = xs.length := by simp at h2; omega
      rw [evAt_end]; exact h
def LaB (b : Bool) (g : Int) (es : List Ev) (L : Int) : Prop := b = true → LastIs g es L
/-- What Of answers: the row of a goroutine that is there, with its last one; or none. -/
def OfPost2 (g : Int) (es : List Ev) (w : World) (e : Ending) (w' : World) : Prop :=
  ∃ G L, e = .returned (.tuple #[.agg (rowc G (cntf g es) L), .bool (anyg g es)]) ∧ (anyg g es = true → G = g ∧ LastIs g es L) ∧ (anyg g es = false → G = 0 ∧ L = 0) ∧ Below w.heap.size w w'
set_option maxHeartbeats 4000000 in
theorem tof_last (v : Value) (es : List Ev) (g : Int) (w : World) (hr : RdE w v es) (hl : es.length ≤ 1000) :
    Calls Tryz.prog 9 #[v, .int .i64 g] w (OfPost2 g es w) := by
  have RD := hid hr
  obtain ⟨a, c, rfl, _, _⟩ := hr
  obtain ⟨n, hn⟩ : ∃ n, n = es.length := ⟨_, rfl⟩
  have HN := hid hn
  rw [← hn] at hl ⊢
  clear hn
  obtain ⟨P, hP⟩ : ∃ P, P = w.heap.size := ⟨_, rfl⟩
  have Z := hid (show rowc 0 (fun _ => 0) 0 = #[.int .i64 0, .int .i64 0, .int .i64 0, .int .i64 0, .int .i64 0, .int .i64 0, .int .i64 0, .int .i64 0, .int .i64 0, .int .i64 0] from rfl)
  go_enter Tryz.func9, Tryz.ntmps9
  go_wp2_with (refine wpList_store_row rfl 32 (.tmp 6) (.tmp 11) rfl (w.heap.size + 1) (rowc g (fun _ => 0) 0) rfl rfl 32 _ (heap_alloc2_new w _ _) (by kernel_rfl) (by rfl) (rowc_ones _ _ _) ?_)
  have B2 := hid (show Below P w (((w.alloc (.cells (rowc 0 (fun _ => 0) 0) 32)).alloc (.cells (rowc 0 (fun _ => 0) 0) 32)).setRow (w.heap.size + 1) (rowc g (fun _ => 0) 0)) from
    row_below (by rw [hP]; exact ((Below.refl _ _).alloc (Nat.le_refl _) _).alloc (by simp) _) (by omega) _)
  have R2 := hid (show (((w.alloc (.cells (rowc 0 (fun _ => 0) 0) 32)).alloc (.cells (rowc 0 (fun _ => 0) 0) 32)).setRow (w.heap.size + 1) (rowc g (fun _ => 0) 0)).heap[P + 1]? = some (.cells (rowc g (fun _ => 0) 0) 32 (0, 0)) from by
    rw [hP]; exact setRow_heap _ _ _ _ _ _ (heap_alloc2_new w _ _))
  have Z2 := hid (show (((w.alloc (.cells (rowc 0 (fun _ => 0) 0) 32)).alloc (.cells (rowc 0 (fun _ => 0) 0) 32)).setRow (w.heap.size + 1) (rowc g (fun _ => 0) 0)).heap[P]? = some (.cells (rowc 0 (fun _ => 0) 0) 32 (0, 0)) from by
    rw [hP, row_other _ _ _ _ (by omega)]; exact heap_alloc2_old w _ _)
  have s2 : (((w.alloc (.cells (rowc 0 (fun _ => 0) 0) 32)).alloc (.cells (rowc 0 (fun _ => 0) 0) 32)).setRow (w.heap.size + 1) (rowc g (fun _ => 0) 0)).heap.size = P + 2 := by rw [row_size]; simp [hP]
  rw [Z.out] at B2 R2 Z2 s2
  rw [← hP]
  rw [← hP] at B2 R2 Z2 s2
  generalize ((w.alloc (.cells #[.int .i64 0, .int .i64 0, .int .i64 0, .int .i64 0, .int .i64 0, .int .i64 0, .int .i64 0, .int .i64 0, .int .i64 0, .int .i64 0] 32)).alloc (.cells #[.int .i64 0, .int .i64 0, .int .i64 0, .int .i64 0, .int .i64 0, .int .i64 0, .int .i64 0, .int .i64 0, .int .i64 0, .int .i64 0] 32)).setRow (P + 1) (rowc g (fun _ => 0) 0) = w2 at *
  have HP := hid hP
  clear hP Z
  go_loopw [7, 14] (fun x i wr => ∃ (k : Nat) (b : Bool) (f : Nat → Int) (L : Int), k ≤ n ∧ x = .bool b ∧ i = .int .i64 k ∧ Hid (b = anyg g (es.take k)) ∧ Hid (LaB b g (es.take k) L) ∧ Hid (∀ j, f j = cntf g (es.take k) j) ∧ Hid (wr.heap[P + 1]? = some (.cells (rowc g f L) 32 (0, 0))) ∧ P + 2 ≤ wr.heap.size ∧ Hid (Below (P + 1) w2 wr))
    (fun _ i _ => n - (intOf i).toNat)
  case atStart => exact ⟨0, false, fun _ => 0, 0, by omega, rfl, rfl, hid rfl, hid (fun h => by simp at h), hid (fun _ => rfl), R2, by omega, hid (Below.refl _ _)⟩
  case round =>
    clear R2
    obtain ⟨k, b, f, L, hk, rfl, rfl, A, LA, F, R, hs, B⟩ := hrel
    have BW := hid (B2.out.trans (B.out.mono (by omega)))
    by_cases hlt : k < n
    · obtain ⟨a', c', e, _, hh⟩ := RD.out.below (w' := wr) (by rw [← HP.out]; exact BW.out)
      simp only [Value.slice.injEq] at e
      obtain ⟨rfl, _, rfl⟩ := e
      obtain ⟨q, off, rfl, _, hc⟩ := hh (by have := HN.out; omega)
      obtain ⟨h0, h1, h2, h3, h4⟩ := hc k (by have := HN.out; omega)
      have T := hid (ev_take (es := es) (k := k) (by have := HN.out; omega))
      generalize evAt es k = ev at *
      obtain ⟨kd, gg, mm, pp, vv⟩ := ev
      simp only at h0 h1 h2 h3 h4
      have B3 := hid (B.out.alloc (by omega) (.cells #[.int .i64 kd, .int .i64 gg, .int .i64 mm, .int .i64 pp, .int .i64 vv] 43))
      have R3 := hid ((Below.heap_alloc wr (.cells #[.int .i64 kd, .int .i64 gg, .int .i64 mm, .int .i64 pp, .int .i64 vv] 43) _ (by omega)).trans R.out)
      have s3 : (wr.alloc (.cells #[.int .i64 kd, .int .i64 gg, .int .i64 mm, .int .i64 pp, .int .i64 vv] 43)).heap.size = wr.heap.size + 1 := by simp
      clear B R hh hc BW
      by_cases hg : gg = g
      · subst hg
        have A2 := hid (show true = anyg gg (es.take (k + 1)) by rw [T.out, anyg_app]; simp [anyg])
        have LA2 := hid (show LaB true gg (es.take (k + 1)) k from fun _ => by
          have h := LastIs.hit gg (es.take k) (kd, gg, mm, pp, vv) rfl
          rw [List.length_take_of_le (by have := HN.out; omega), ← T.out] at h
          exact h)
        have F2 := hid (show ∀ j, addk f kd j = cntf gg (es.take (k + 1)) j from fun j => by
          rw [T.out, cntf_hit]; unfold addk; rw [F.out j])
        have FR := hid (fun j (_ : j < 8) => (show 0 ≤ f j ∧ f j ≤ 100000 by
          have h1 := cntf_range gg (es.take k) j
          have h2 := List.length_take_le k es
          rw [F.out j]; omega))
        clear A F T LA
        go_wp2_with fail
        refine (add_any (P + 1) gg f L kd gg mm pp vv k _ R3.out FR.out).mono ?_
        rintro e w4 ⟨rfl, r4, b4, s4⟩
        have R4 := hid r4
        have B4 := hid (B3.out.trans b4)
        have s5 : P + 2 ≤ w4.heap.size := by omega
        clear r4 b4 s4 R3 B3 s3 FR h0 h1 h2 h3 h4
        go_wp2_with fail
        go_roundw
        case rel => exact ⟨k + 1, true, addk f kd, k, by omega, rfl, by go_num, A2, LA2, F2, R4, s5, B4⟩
        case measure => simp [intOf]; omega
      · have hgn : (gg == g) = false := by simpa using hg
        have LA2 := hid (show LaB b g (es.take (k + 1)) L from fun hb => by rw [T.out]; exact (LA.out hb).miss (kd, gg, mm, pp, vv) hg)
        have A2 := hid (show b = anyg g (es.take (k + 1)) by rw [T.out, anyg_app, A.out]; simp [anyg, hg])
        have F2 := hid (show ∀ j, f j = cntf g (es.take (k + 1)) j from fun j => by rw [T.out, cntf_miss hg]; exact F.out j)
        clear A F T hg LA
        go_wp2_with fail
        go_roundw
        case rel => exact ⟨k + 1, b, f, L, by omega, rfl, by go_num, A2, LA2, F2, R3, by omega, B3⟩
        case measure => simp [intOf]; omega
    · obtain rfl : k = n := by omega
      rw [List.take_of_length_le (by have := HN.out; omega)] at A F LA
      have ZR := hid ((B.out.block P (by omega)).trans Z2.out)
      have FE : f = cntf g es := funext F.out
      subst FE
      cases b
      · have Fz := hid (show rowc 0 (cntf g es) 0 = rowc 0 (fun _ => 0) 0 from row_eq fun j _ => cntf_none A.out.symm j)
        clear F B Z2
        have FIN := hid (show OfPost2 g es w (.returned (.tuple #[.agg (rowc 0 (fun _ => 0) 0), .bool false])) (wr.setRow P (rowc 0 (fun _ => 0) 0)) from
          ⟨0, 0, by rw [Fz.out, ← A.out], fun h => absurd (A.out.trans h) (by simp), fun _ => ⟨rfl, rfl⟩, row_below (by have := BW.out; rw [HP.out] at this; exact this) (by rw [HP.out]; exact Nat.le_refl _) _⟩)
        clear A BW
        go_wp2_with (refine wpList_store_row rfl 32 (.tmp 4) (.tmp 29) rfl P (rowc 0 (fun _ => 0) 0) rfl rfl 32 _ ZR.out (by kernel_rfl) (by rfl) (rowc_ones _ _ _) ?_)
        refine bodyPost_ret (v := .tuple #[.agg (rowc 0 (fun _ => 0) 0), .bool false]) (results_row_tmp rfl _ _ P 32 (rowc 0 (fun _ => 0) 0) (0, 0) _ (by rfl) (setRow_heap _ _ _ _ _ _ ZR.out) Tryz.underlying32 rfl (by kernel_rfl) _ (by rfl)) rfl FIN.out
      · clear F B Z2
        have FIN := hid (show OfPost2 g es w (.returned (.tuple #[.agg (rowc g (cntf g es) L), .bool true])) (wr.setRow P (rowc g (cntf g es) L)) from
          ⟨g, L, by rw [← A.out], fun _ => ⟨rfl, LA.out rfl⟩, fun h => absurd (A.out.trans h) (by simp), row_below (by have := BW.out; rw [HP.out] at this; exact this) (by rw [HP.out]; exact Nat.le_refl _) _⟩)
        clear A BW
        go_wp2_with (first
          | (refine wpList_load_known (by rfl) 32 (.tmp 6) rfl (P + 1) rfl 32 (rowc g (cntf g es) L) (0, 0) _ R.out Tryz.underlying32 rfl (by kernel_rfl) ?_)
          | (refine wpList_store_row rfl 32 (.tmp 4) (.tmp 30) rfl P (rowc g (cntf g es) L) rfl rfl 32 _ ZR.out (by kernel_rfl) (by rfl) (rowc_ones _ _ _) ?_))
        refine bodyPost_ret (v := .tuple #[.agg (rowc g (cntf g es) L), .bool true]) (results_row_tmp rfl _ _ P 32 (rowc g (cntf g es) L) (0, 0) _ (by rfl) (setRow_heap _ _ _ _ _ _ ZR.out) Tryz.underlying32 rfl (by kernel_rfl) _ (by rfl)) rfl FIN.out
end Go.Proofs.YtopidlcifaenjaaGreatDoor
/-! tally.Order, tally.waits, tally.Longest as contracts. -/
namespace Go.Proofs.YtopidlcifaenjaaGreatDoor
set_option linter.unusedVariables false
set_option linter.unusedSimpArgs false
set_option maxRecDepth 20000
open Go.RowKit

/-- Does one wait from an event on? -/
def wts (k : Int) : Bool := k == 0 || k == 1 || k == 3
/-- One more event: the longest so far, how many others there were, does it wait? -/
def lstep (g : Int) (s : Int × Int × Bool) (e : Ev) : Int × Int × Bool :=
  if e.2.1 = g then ((if s.2.2 then max s.1 s.2.1 else s.1), 0, wts e.1) else (s.1, s.2.1 + 1, s.2.2)
def lfold (g : Int) (es : List Ev) : Int × Int × Bool := es.foldl (lstep g) (0, 0, false)
theorem lfold_snoc (g : Int) (es : List Ev) (e : Ev) : lfold g (es ++ [e]) = lstep g (lfold g es) e := by simp [lfold]
theorem lfold_range (g : Int) : ∀ (es : List Ev) (s : Int × Int × Bool) (n : Nat), 0 ≤ s.1 → s.1 ≤ n → 0 ≤ s.2.1 → s.2.1 ≤ n →
    0 ≤ (es.foldl (lstep g) s).1 ∧ (es.foldl (lstep g) s).1 ≤ n + es.length ∧ 0 ≤ (es.foldl (lstep g) s).2.1 ∧ (es.foldl (lstep g) s).2.1 ≤ n + es.length
  | [], s, n, h1, h2, h3, h4 => by simp; omega
  | e :: es, s, n, h1, h2, h3, h4 => by
    have := lfold_range g es (lstep g s e) (n + 1) (by unfold lstep; split <;> simp <;> (try split) <;> omega) (by unfold lstep; split <;> simp <;> (try split) <;> omega) (by unfold lstep; split <;> simp <;> omega) (by unfold lstep; split <;> simp <;> omega)
    simp only [List.foldl_cons, List.length_cons]
    omega
theorem lfold_take (g : Int) (es : List Ev) (k : Nat) : 0 ≤ (lfold g (es.take k)).1 ∧ (lfold g (es.take k)).1 ≤ k ∧ 0 ≤ (lfold g (es.take k)).2.1 ∧ (lfold g (es.take k)).2.1 ≤ k := by
  have := lfold_range g (es.take k) (0, 0, false) 0 (by simp) (by simp) (by simp) (by simp)
  have hl := List.length_take_le k es
  unfold lfold
  omega
theorem lfold_mono (g : Int) : ∀ (es : List Ev) (s t : Int × Int × Bool), t.1 ≤ s.1 → (t.2.2 = false ∨ (s.2.1 = t.2.1 ∧ s.2.2 = t.2.2)) → (es.foldl (lstep g) t).1 ≤ (es.foldl (lstep g) s).1
  | [], s, t, h, _ => h
  | e :: es, s, t, h, h2 => by
    refine lfold_mono g es (lstep g s e) (lstep g t e) ?_ ?_
    · unfold lstep
      split
      · rcases h2 with h2 | ⟨h3, h4⟩
        · rw [h2]; simp; split <;> omega
        · rw [h3, h4]; simp; split <;> omega
      · exact h
    · unfold lstep
      split
      · exact .inr ⟨rfl, rfl⟩
      · rcases h2 with h2 | ⟨h3, h4⟩
        · exact .inl h2
        · exact .inr ⟨by simp [h3], h4⟩
theorem lfold_grows (g : Int) : ∀ (es : List Ev) (s : Int × Int × Bool), s.1 ≤ (es.foldl (lstep g) s).1
  | [], s => Int.le_refl _
  | e :: es, s => by
    refine Int.le_trans ?_ (lfold_grows g es (lstep g s e))
    unfold lstep
    split
    · simp; split <;> omega
    · exact Int.le_refl _
theorem lfold_app (g : Int) (es fs : List Ev) : (lfold g es).1 ≤ (lfold g (es ++ fs)).1 ∧ (lfold g fs).1 ≤ (lfold g (es ++ fs)).1 := by
  unfold lfold
  rw [List.foldl_append]
  refine ⟨lfold_grows g _ _, lfold_mono g fs _ _ ?_ (.inl rfl)⟩
  have := lfold_range g es (0, 0, false) 0 (by simp) (by simp) (by simp) (by simp)
  exact this.1

theorem waits_any (k : Int) (w : World) : Calls Tryz.prog 24 #[.int .i64 k] w fun e w' => e = .returned (.bool (wts k)) ∧ w' = w := by
  by_cases h0 : k = 0
  · subst h0
    go_enter Tryz.func24, Tryz.ntmps24
    go_wp2
    go_ret
    exact ⟨rfl, rfl⟩
  · by_cases h1 : k = 1
    · subst h1
      clear h0
      go_enter Tryz.func24, Tryz.ntmps24
      go_wp2
      go_ret
      exact ⟨rfl, rfl⟩
    · have e0 : (k == 0) = false := by simpa using h0
      have e1 : (k == 1) = false := by simpa using h1
      rw [show wts k = (k == 3) by simp [wts, e0, e1]]
      clear h0 h1
      go_enter Tryz.func24, Tryz.ntmps24
      go_wp2
      go_ret
      exact ⟨rfl, rfl⟩

set_option maxHeartbeats 4000000 in
theorem longest_any (v : Value) (es : List Ev) (g : Int) (w : World) (hr : RdE w v es) (hl : es.length ≤ 1000) :
    Calls Tryz.prog 12 #[v, .int .i64 g] w fun e w' => e = .returned (.int .i64 (lfold g es).1) ∧ Below w.heap.size w w' := by
  have RD := hid hr
  obtain ⟨a, c, rfl, _, _⟩ := hr
  obtain ⟨n, hn⟩ : ∃ n, n = es.length := ⟨_, rfl⟩
  have HN := hid hn
  rw [← hn] at hl ⊢
  have R := hid (fun k => lfold_take g es k)
  clear hn
  go_enter Tryz.func12, Tryz.ntmps12
  go_wp2_with fail
  go_loopw [5, 6, 7, 12] (fun x y z i wr => ∃ (k : Nat) (L o : Int) (b : Bool), k ≤ n ∧ x = .int .i64 L ∧ y = .int .i64 o ∧ z = .bool b ∧ i = .int .i64 k ∧ Hid (lfold g (es.take k) = (L, o, b)) ∧ Hid (Below w.heap.size w wr))
    (fun _ _ _ i _ => n - (intOf i).toNat)
  case atStart => exact ⟨0, 0, 0, false, by omega, rfl, rfl, rfl, rfl, hid rfl, hid (Below.refl _ _)⟩
  case round =>
    obtain ⟨k, L, o, b, hk, rfl, rfl, rfl, rfl, F, B⟩ := hrel
    have hR := R.out k
    rw [F.out] at hR
    obtain ⟨r1, r2, r3, r4⟩ := hR
    simp only at r1 r2 r3 r4
    by_cases hlt : k < n
    · obtain ⟨a', c', e, _, hh⟩ := RD.out.below B.out
      simp only [Value.slice.injEq] at e
      obtain ⟨rfl, _, rfl⟩ := e
      obtain ⟨q, off, rfl, _, hc⟩ := hh (by have := HN.out; omega)
      obtain ⟨h0, h1, h2, h3, h4⟩ := hc k (by have := HN.out; omega)
      have T := hid (ev_take (es := es) (k := k) (by have := HN.out; omega))
      generalize evAt es k = ev at *
      obtain ⟨kd, gg, mm, pp, vv⟩ := ev
      simp only at h0 h1 h2 h3 h4
      have B2 := hid (B.out.alloc B.out.size (.cells #[.int .i64 kd, .int .i64 gg, .int .i64 mm, .int .i64 pp, .int .i64 vv] 43))
      clear B hh hc
      by_cases hg : gg = g
      · subst hg
        cases b
        · have F2 := hid (show lfold gg (es.take (k + 1)) = (L, 0, wts kd) by rw [T.out, lfold_snoc, F.out]; simp [lstep])
          clear F T
          go_wp2_with fail
          refine (waits_any kd _).mono ?_
          rintro e w3 ⟨rfl, rfl⟩
          generalize wts kd = bb at *
          go_wp2_with fail
          go_roundw
          case rel => exact ⟨k + 1, L, 0, bb, by omega, (by first | rfl | (congr 1; omega)), rfl, rfl, by go_num, F2, B2⟩
          case measure => simp [intOf]; omega
        · rcases (show L < o ∨ o ≤ L by omega) with hlo | hlo
          · have F2 := hid (show lfold gg (es.take (k + 1)) = (o, 0, wts kd) by rw [T.out, lfold_snoc, F.out]; simp [lstep]; omega)
            clear F T
            go_wp2_with fail
            refine (waits_any kd _).mono ?_
            rintro e w3 ⟨rfl, rfl⟩
            generalize wts kd = bb at *
            go_wp2_with fail
            go_roundw
            case rel => exact ⟨k + 1, o, 0, bb, by omega, (by first | rfl | (congr 1; omega)), rfl, rfl, by go_num, F2, B2⟩
            case measure => simp [intOf]; omega
          · have F2 := hid (show lfold gg (es.take (k + 1)) = (L, 0, wts kd) by rw [T.out, lfold_snoc, F.out]; simp [lstep]; omega)
            clear F T
            go_wp2_with fail
            refine (waits_any kd _).mono ?_
            rintro e w3 ⟨rfl, rfl⟩
            generalize wts kd = bb at *
            go_wp2_with fail
            go_roundw
            case rel => exact ⟨k + 1, L, 0, bb, by omega, (by first | rfl | (congr 1; omega)), rfl, rfl, by go_num, F2, B2⟩
            case measure => simp [intOf]; omega
      · have hgn : (gg != g) = true := by simpa using hg
        have F2 := hid (show lfold g (es.take (k + 1)) = (L, o + 1, b) by rw [T.out, lfold_snoc, F.out]; simp [lstep, hg])
        clear F T hg
        go_wp2_with fail
        go_roundw
        case rel => exact ⟨k + 1, L, o + 1, b, by omega, rfl, by go_num, rfl, by go_num, F2, B2⟩
        case measure => simp [intOf]; omega
    · obtain rfl : k = n := by omega
      have E := hid (show L = (lfold g es).1 by
        have := F.out
        rw [List.take_of_length_le (by have := HN.out; omega)] at this
        rw [this])
      clear F
      go_wp2
      go_ret
      exact ⟨(show Ending.returned (.int .i64 L) = _ by rw [E.out]), B.out⟩
end Go.Proofs.YtopidlcifaenjaaGreatDoor
/-! The document's longest wait. -/
namespace Go.Proofs.YtopidlcifaenjaaGreatDoor
open Go.RowKit
set_option linter.unusedVariables false
set_option linter.unusedSimpArgs false
set_option maxRecDepth 20000
/-- How many stand ahead of a goroutine's next event. -/
def gapE (g : Int) : List Ev → Option Nat
  | [] => none
  | e :: l => if e.2.1 = g then some 0 else (gapE g l).map (· + 1)
/-- What an event that waits adds. -/
def addE (g : Int) (e : Ev) (l : List Ev) : Nat := if e.2.1 = g ∧ wts e.1 = true then (gapE g l).getD 0 else 0
def dlE (g : Int) : List Ev → Nat
  | [] => 0
  | e :: l => max (addE g e l) (dlE g l)
def gmax (L o : Int) (b : Bool) (q : Option Nat) : Int := match b, q with
  | true, some n => max L (o + n)
  | _, _ => L
theorem fold_dl (g : Int) : ∀ (l : List Ev) (L o : Int) (b : Bool), 0 ≤ L → (l.foldl (lstep g) (L, o, b)).1 = max (gmax L o b (gapE g l)) (dlE g l)
  | [], L, o, b, h => by cases b <;> simp [gapE, gmax, dlE] <;> omega
  | e :: l, L, o, b, h => by
    rw [List.foldl_cons]
    by_cases hg : e.2.1 = g
    · have hs : lstep g (L, o, b) e = ((if b then max L o else L), 0, wts e.1) := by simp [lstep, hg]
      rw [hs, fold_dl g l _ _ _ (by split <;> omega)]
      simp only [gapE, if_pos hg, dlE, addE, hg, true_and]
      cases b <;> cases hw : wts e.1 <;> cases gapE g l <;> simp [gmax] <;> omega
    · have hs : lstep g (L, o, b) e = (L, o + 1, b) := by simp [lstep, hg]
      rw [hs, fold_dl g l _ _ _ h]
      simp only [gapE, if_neg hg, dlE, addE, hg, false_and, if_false]
      cases b <;> cases gapE g l <;> simp [gmax] <;> omega
theorem lfold_dl (g : Int) (es : List Ev) : (lfold g es).1 = dlE g es := by
  unfold lfold
  rw [fold_dl g es 0 0 false (by omega)]
  simp [gmax]
theorem gapE_le (g : Int) : ∀ (l : List Ev) (n : Nat), gapE g l = some n → n < l.length
  | [], n, h => by simp [gapE] at h
  | e :: l, n, h => by
    unfold gapE at h
    split at h
    · simp at h; subst h; simp
    · rcases hq : gapE g l with _ | q
      · rw [hq] at h; simp at h
      · rw [hq] at h
        simp at h
        have := gapE_le g l q hq
        simp; omega
theorem dlE_le (g : Int) : ∀ l : List Ev, dlE g l ≤ l.length
  | [] => by simp [dlE]
  | e :: l => by
    have := dlE_le g l
    have h2 : addE g e l ≤ l.length := by
      unfold addE
      split
      · rcases hq : gapE g l with _ | q
        · simp
        · have := gapE_le g l q hq; simp; omega
      · omega
    simp only [dlE, List.length_cons]
    omega
theorem gapE_at (g : Int) : ∀ (l : List Ev) (j : Nat), (∀ i, i < j → i < l.length → (evAt l i).2.1 ≠ g) → j < l.length → (evAt l j).2.1 = g → gapE g l = some j
  | [], j, h1, h2, h3 => by simp at h2
  | e :: l, 0, h1, h2, h3 => by unfold gapE; rw [if_pos (by simpa [evAt] using h3)]
  | e :: l, j + 1, h1, h2, h3 => by
    have h0 := h1 0 (by omega) (by simp)
    unfold gapE
    rw [if_neg (by simpa [evAt] using h0), gapE_at g l j (fun i hi hl => by have := h1 (i + 1) (by omega) (by simp; omega); simpa [evAt] using this) (by simpa using h2) (by simpa [evAt] using h3)]
    rfl
theorem gapE_none (g : Int) : ∀ l : List Ev, (∀ i, i < l.length → (evAt l i).2.1 ≠ g) → gapE g l = none
  | [], h => rfl
  | e :: l, h => by
    have h0 := h 0 (by simp)
    unfold gapE
    rw [if_neg (by simpa [evAt] using h0), gapE_none g l (fun i hi => by have := h (i + 1) (by simp; omega); simpa [evAt] using this)]
    rfl
end Go.Proofs.YtopidlcifaenjaaGreatDoor
/-! tally.Row.add at a row of a slice of rows. -/
namespace Go.Proofs.YtopidlcifaenjaaGreatDoor
open Go.RowKit
set_option linter.unusedVariables false
set_option linter.unusedSimpArgs false
set_option maxRecDepth 20000
/-- A goroutine's row: it, how often, the last one's place. -/
abbrev Rw := Int × (Nat → Int) × Int
def rwc (r : Rw) : List Value := (rowc r.1 r.2.1 r.2.2).toList
def fr (rs : List Rw) : List Value := rs.flatMap rwc
theorem rwc_len (r : Rw) : (rwc r).length = 10 := rfl
theorem fr_cons (r : Rw) (rs : List Rw) : fr (r :: rs) = rwc r ++ fr rs := by simp [fr]
theorem fr_app (xs ys : List Rw) : fr (xs ++ ys) = fr xs ++ fr ys := by simp [fr]
theorem fr_len : ∀ rs : List Rw, (fr rs).length = rs.length * 10
  | [] => rfl
  | r :: rs => by rw [fr_cons, List.length_append, rwc_len, fr_len rs, List.length_cons]; omega
def rwAt (rs : List Rw) (i : Nat) : Rw := rs.getD i (0, fun _ => 0, 0)
theorem fr_get : ∀ (rs : List Rw) (r j : Nat), r < rs.length → j < 10 → (fr rs)[r * 10 + j]? = (rwc (rwAt rs r))[j]?
  | [], r, j, h, _ => by simp at h
  | e :: es, 0, j, _, hj => by
    rw [fr_cons, Nat.zero_mul, Nat.zero_add, List.getElem?_append_left (by rw [rwc_len]; exact hj)]
    rfl
  | e :: es, r + 1, j, h, hj => by
    rw [fr_cons, List.getElem?_append_right (by rw [rwc_len]; omega), rwc_len, show (r + 1) * 10 + j - 10 = r * 10 + j by omega, fr_get es r j (by simpa using h) hj]
    simp [rwAt]
theorem fr_set : ∀ (rs : List Rw) (r j : Nat) (u : Value) (r' : Rw), r < rs.length → j < 10 → (rwc (rwAt rs r)).set j u = rwc r' → (fr rs).set (r * 10 + j) u = fr (rs.set r r')
  | [], r, j, u, r', h, _, _ => by simp at h
  | e :: es, 0, j, u, r', _, hj, he => by
    rw [fr_cons, Nat.zero_mul, Nat.zero_add, List.set_append_left _ _ (by rw [rwc_len]; exact hj), List.set_cons_zero, fr_cons]
    rw [show rwAt (e :: es) 0 = e by simp [rwAt]] at he
    rw [he]
  | e :: es, r + 1, j, u, r', h, hj, he => by
    rw [fr_cons, List.set_append_right _ _ (by rw [rwc_len]; omega), rwc_len, show (r + 1) * 10 + j - 10 = r * 10 + j by omega, List.set_cons_succ, fr_cons]
    rw [show rwAt (e :: es) (r + 1) = rwAt es r by simp [rwAt]] at he
    rw [fr_set es r j u r' (by simpa using h) hj he]
theorem rwAt_set {rs : List Rw} {r : Nat} (x : Rw) (h : r < rs.length) : rwAt (rs.set r x) r = x := by simp [rwAt, List.getD, List.getElem?_set, h]
/-- .. and nothing else was written. -/
def AddAt (base : Nat) (v : Value) (rs : List Rw) (r : Nat) (kd at' : Int) (w : World) (e : Ending) (w' : World) : Prop :=
  e = .returned (.tuple #[]) ∧ w'.ownsRow base 32 10 v rs.length (fr (rs.set r ((rwAt rs r).1, addk (rwAt rs r).2.1 kd, at'))) ∧ w.grownBy w' v.ownBlock
theorem grown_set (w : World) (p o : Nat) (x : Value) : w.grownBy (w.setCell ⟨p, o, none⟩ x) (some p) := ⟨rfl, rfl, rfl, by simp [World.setCell], fun k hk hn => heap_setCell_other w _ _ _ (by simpa using fun e => hn (by rw [e]))⟩
theorem grown_trans {w1 w2 w3 : World} {row : Option Nat} (h1 : w1.grownBy w2 row) (h2 : w2.grownBy w3 row) : w1.grownBy w3 row := ⟨h2.os.trans h1.os, h2.tape.trans h1.tape, h2.output.trans h1.output, Nat.le_trans h1.size h2.size, fun k hk hn => (h2.block k (Nat.lt_of_lt_of_le hk h1.size) hn).trans (h1.block k hk hn)⟩
theorem grown_below {w w' : World} {row : Option Nat} (h : Below w.heap.size w w') : w.grownBy w' row := ⟨h.os, h.tape, h.output, h.size, fun k hk _ => h.block k hk⟩
set_option maxHeartbeats 4000000 in
theorem add_at (base p cap : Nat) (rs : List Rw) (r : Nat) (hr : r < rs.length) (kd gg mm pp vv : Int) (at' : Int) (w : World) (ho : w.ownsRow base 32 10 (.slice (some ⟨p, 0, none⟩) rs.length cap) rs.length (fr rs)) (hf : ∀ j, j < 8 → 0 ≤ (rwAt rs r).2.1 j ∧ (rwAt rs r).2.1 j ≤ 100000) :
    Calls Tryz.prog 22 #[.pointer (some ⟨p, r * 10, none⟩), .agg #[.int .i64 kd, .int .i64 gg, .int .i64 mm, .int .i64 pp, .int .i64 vv], .int .i64 at'] w (AddAt base (.slice (some ⟨p, 0, none⟩) rs.length cap) rs r kd at' w) := by
  obtain ⟨G, hG⟩ : ∃ G, rwAt rs r = G := ⟨_, rfl⟩
  obtain ⟨g, f, l⟩ := G
  rw [hG] at hf
  simp only at hf
  have hpl : p < w.heap.size := (World.ownsRow.lt ho p rfl).2
  by_cases hk : 0 ≤ kd ∧ kd < 8
  · obtain ⟨k, rfl⟩ : ∃ k : Nat, kd = k := ⟨kd.toNat, by omega⟩
    have hk8 : k < 8 := by omega
    obtain ⟨hf0, hf1⟩ := hf k hk8
    obtain ⟨x, hx⟩ : ∃ x, x = f k := ⟨_, rfl⟩
    rw [← hx] at hf0 hf1
    have c0 : w.cell? ⟨p, r * 10 + 1 + k, none⟩ = some (.int .i64 x) := by
      rw [hx, ho.cellAt _ (by omega), Nat.add_assoc, fr_get rs r (1 + k) hr (by omega), hG]
      have h := rowc_get g f l k hk8
      simpa [rwc] using h
    have f0 : w.frozen? ⟨p, r * 10 + 1 + k, none⟩ = false := ho.frozenAt _
    have hk1 : (0 : Int) ≤ k := by omega
    have hk2 : (k : Int) < 8 := by omega
    have o1 := ho.stored (r * 10 + 1 + k) (.int .i64 (x + 1))
    rw [Nat.add_assoc (r * 10) 1 k, fr_set rs r (1 + k) _ (g, upf f k (x + 1), l) hr (by omega) (by
      rw [hG]
      have h := congrArg Array.toList (rowc_set g f l k hk8 (x + 1))
      simpa [rwc] using h), ← Nat.add_assoc (r * 10) 1 k] at o1
    have hl1 : (rs.set r (g, upf f k (x + 1), l)).length = rs.length := List.length_set
    have c9 : (w.setCell ⟨p, r * 10 + 1 + k, none⟩ (.int .i64 (x + 1))).cell? ⟨p, r * 10 + 9, none⟩ = some (.int .i64 l) := by
      rw [o1.1.cellAt _ (by omega), fr_get _ r 9 (by rw [hl1]; exact hr) (by omega), rwAt_set _ hr]
      rfl
    have f9 : (w.setCell ⟨p, r * 10 + 1 + k, none⟩ (.int .i64 (x + 1))).frozen? ⟨p, r * 10 + 9, none⟩ = false := o1.1.frozenAt _
    have o2 := o1.1.stored (r * 10 + 9) (.int .i64 at')
    have hfe : rowc g (upf f k (x + 1)) at' = rowc g (addk f k) at' := row_eq fun j _ => by
      unfold upf addk
      by_cases hj : j = k
      · subst hj; rw [if_pos rfl, if_pos rfl, hx]
      · rw [if_neg hj, if_neg (by omega)]
    rw [fr_set _ r 9 _ (g, addk f k, at') (by rw [hl1]; exact hr) (by omega) (by
      rw [rwAt_set _ hr]
      have h := congrArg Array.toList ((rowc_last g (upf f k (x + 1)) l at').trans hfe)
      simpa [rwc] using h), List.set_set] at o2
    have FIN := hid (show AddAt base (.slice (some ⟨p, 0, none⟩) rs.length cap) rs r k at' w (.returned (.tuple #[])) (((w.setCell ⟨p, r * 10 + 1 + k, none⟩ (.int .i64 (x + 1))).setCell ⟨p, r * 10 + 9, none⟩ (.int .i64 at')).alloc (.cells #[.int .i64 k, .int .i64 gg, .int .i64 mm, .int .i64 pp, .int .i64 vv] 43)).drew from
      ⟨rfl, by rw [hG]; exact (o2.1.alloc _).drew, grown_trans o1.2 (grown_trans o2.2 (grown_below (((Below.refl _ _).alloc (Nat.le_refl _) _).trans (Quiet.below ⟨1, rfl⟩ _))))⟩)
    clear hx hf ho o1 o2 hfe hG hl1 hr
    go_enter Tryz.func22, Tryz.ntmps22
    go_wp2_with fail
    go_region
    all_goals
      go_wp2
      go_end0
      exact FIN.out
  · have f0 : w.frozen? ⟨p, r * 10 + 9, none⟩ = false := ho.frozenAt _
    have c0 : w.cell? ⟨p, r * 10 + 9, none⟩ = some (.int .i64 l) := by
      rw [ho.cellAt _ (by omega), fr_get rs r 9 hr (by omega), hG]
      rfl
    have o2 := ho.stored (r * 10 + 9) (.int .i64 at')
    have hfe : rowc g f at' = rowc g (addk f kd) at' := row_eq fun j _ => by
      unfold addk
      rw [if_neg (by omega)]
    rw [fr_set _ r 9 _ (g, addk f kd, at') hr (by omega) (by
      rw [hG]
      have h := congrArg Array.toList ((rowc_last g f l at').trans hfe)
      simpa [rwc] using h)] at o2
    have FIN := hid (show AddAt base (.slice (some ⟨p, 0, none⟩) rs.length cap) rs r kd at' w (.returned (.tuple #[])) ((w.setCell ⟨p, r * 10 + 9, none⟩ (.int .i64 at')).alloc (.cells #[.int .i64 kd, .int .i64 gg, .int .i64 mm, .int .i64 pp, .int .i64 vv] 43)) from
      ⟨rfl, by rw [hG]; exact o2.1.alloc _, grown_trans o2.2 (grown_below ((Below.refl _ _).alloc (Nat.le_refl _) _))⟩)
    clear hf ho o2 hfe hG hr
    rcases (show kd < 0 ∨ (0 ≤ kd ∧ 8 ≤ kd) by omega) with h1 | ⟨h1, h2⟩
    · clear hk
      go_enter Tryz.func22, Tryz.ntmps22
      go_wp2
      go_end0
      exact FIN.out
    · clear hk
      go_enter Tryz.func22, Tryz.ntmps22
      go_wp2
      go_end0
      exact FIN.out
end Go.Proofs.YtopidlcifaenjaaGreatDoor
/-! What tally.All holds behind some events: the rows in the order of first sight. -/
namespace Go.Proofs.YtopidlcifaenjaaGreatDoor
open Go.RowKit
set_option linter.unusedVariables false
set_option linter.unusedSimpArgs false
set_option maxRecDepth 20000
structure AllI (es : List Ev) (rs : List Rw) : Prop where
  row : ∀ r, r < rs.length → (rwAt rs r).2.1 = cntf (rwAt rs r).1 es ∧ LastIs (rwAt rs r).1 es (rwAt rs r).2.2 ∧ 0 ≤ (rwAt rs r).2.2
  nd : ∀ i j, i < rs.length → j < rs.length → (rwAt rs i).1 = (rwAt rs j).1 → i = j
  all : ∀ e ∈ es, ∃ r, r < rs.length ∧ (rwAt rs r).1 = e.2.1
  len : rs.length ≤ es.length
theorem AllI.nil : AllI [] [] := ⟨fun r h => by simp at h, fun i j h => by simp at h, fun e h => by simp at h, by simp⟩
theorem rwAt_ne {rs : List Rw} {r q : Nat} (x : Rw) (h : q ≠ r) : rwAt (rs.set r x) q = rwAt rs q := by
  simp [rwAt, List.getD, List.getElem?_set, Ne.symm h]
theorem rwAt_app {rs : List Rw} {q : Nat} (x : Rw) (h : q < rs.length) : rwAt (rs ++ [x]) q = rwAt rs q := by
  simp [rwAt, List.getD, List.getElem?_append_left h]
theorem rwAt_end (rs : List Rw) (x : Rw) : rwAt (rs ++ [x]) rs.length = x := by simp [rwAt]
/-- An event of a goroutine that has its row. -/
theorem AllI.hit {es : List Ev} {rs : List Rw} (h : AllI es rs) (e : Ev) {r : Nat} (hr : r < rs.length) (hg : (rwAt rs r).1 = e.2.1) :
    AllI (es ++ [e]) (rs.set r ((rwAt rs r).1, addk (rwAt rs r).2.1 e.1, es.length)) := by
  obtain ⟨kd, gg, mm, pp, vv⟩ := e
  simp only at hg
  have key : ∀ q, q < rs.length → q ≠ r → (rwAt rs q).1 ≠ gg := fun q hq hn he => hn (h.nd q r hq hr (he.trans hg.symm))
  have g1 : ∀ q, q < rs.length → (rwAt (rs.set r ((rwAt rs r).1, addk (rwAt rs r).2.1 kd, (es.length : Int))) q).1 = (rwAt rs q).1 := fun q hq => by
    by_cases hqr : q = r
    · subst hqr; rw [rwAt_set _ hr]
    · rw [rwAt_ne _ hqr]
  refine ⟨fun q hq => ?_, fun i j hi hj he => ?_, fun x hx => ?_, by simp; have := h.len; omega⟩
  · rw [List.length_set] at hq
    by_cases hqr : q = r
    · subst hqr
      rw [rwAt_set _ hr]
      obtain ⟨h1, h2, h3⟩ := h.row q hq
      refine ⟨?_, ?_, by simp⟩
      · funext j
        simp only
        rw [hg, cntf_hit, h1, hg]
      · simp only
        exact LastIs.hit _ es _ hg.symm
    · rw [rwAt_ne _ hqr]
      obtain ⟨h1, h2, h3⟩ := h.row q hq
      exact ⟨by rw [cntf_miss (fun e => key q hq hqr e.symm)]; exact h1, h2.miss _ (fun e => key q hq hqr e.symm), h3⟩
  · rw [List.length_set] at hi hj
    rw [g1 i hi, g1 j hj] at he
    exact h.nd i j hi hj he
  · rcases List.mem_append.1 hx with hx | hx
    · obtain ⟨q, hq, he⟩ := h.all x hx
      exact ⟨q, by rw [List.length_set]; exact hq, by rw [g1 q hq]; exact he⟩
    · rw [List.mem_singleton] at hx
      subst hx
      exact ⟨r, by rw [List.length_set]; exact hr, by rw [g1 r hr]; exact hg⟩
theorem anyg_none {es : List Ev} {g : Int} (h : ∀ e ∈ es, e.2.1 ≠ g) : anyg g es = false := by
  unfold anyg
  rw [List.any_eq_false]
  intro e he
  simpa using h e he
/-- The first event of a goroutine. -/
theorem AllI.new {es : List Ev} {rs : List Rw} (h : AllI es rs) (e : Ev) (hn : ∀ r, r < rs.length → (rwAt rs r).1 ≠ e.2.1) :
    AllI (es ++ [e]) ((rs ++ [(e.2.1, fun _ => 0, 0)]).set rs.length (e.2.1, addk (fun _ => 0) e.1, es.length)) := by
  obtain ⟨kd, gg, mm, pp, vv⟩ := e
  simp only at hn ⊢
  have hno : ∀ x ∈ es, x.2.1 ≠ gg := fun x hx he => by obtain ⟨r, hr, hg⟩ := h.all x hx; exact hn r hr (hg.trans he)
  have hl : rs.length < (rs ++ [((gg, fun _ => 0, 0) : Rw)]).length := by simp
  have hend : rwAt ((rs ++ [((gg, fun _ => 0, 0) : Rw)]).set rs.length (gg, addk (fun _ => 0) kd, (es.length : Int))) rs.length = (gg, addk (fun _ => 0) kd, (es.length : Int)) := rwAt_set _ hl
  have hold : ∀ q, q < rs.length → rwAt ((rs ++ [((gg, fun _ => 0, 0) : Rw)]).set rs.length (gg, addk (fun _ => 0) kd, (es.length : Int))) q = rwAt rs q := fun q hq => by
    rw [rwAt_ne _ (by omega), rwAt_app _ hq]
  have hcn : cntf gg es = fun _ => 0 := funext fun j => cntf_none (anyg_none hno) j
  refine ⟨fun q hq => ?_, fun i j hi hj he => ?_, fun x hx => ?_, by simp; have := h.len; omega⟩
  · simp at hq
    rcases Nat.lt_or_ge q rs.length with hq2 | hq2
    · rw [hold q hq2]
      obtain ⟨h1, h2, h3⟩ := h.row q hq2
      exact ⟨by rw [cntf_miss (fun e => hn q hq2 e.symm)]; exact h1, h2.miss _ (fun e => hn q hq2 e.symm), h3⟩
    · obtain rfl : q = rs.length := by omega
      rw [hend]
      refine ⟨?_, LastIs.hit _ es _ rfl, by simp⟩
      funext j
      simp only
      rw [cntf_hit, hcn]
  · simp at hi hj
    rcases Nat.lt_or_ge i rs.length with hi2 | hi2 <;> rcases Nat.lt_or_ge j rs.length with hj2 | hj2
    · rw [hold i hi2, hold j hj2] at he; exact h.nd i j hi2 hj2 he
    · obtain rfl : j = rs.length := by omega
      rw [hold i hi2, hend] at he; exact absurd he (hn i hi2)
    · obtain rfl : i = rs.length := by omega
      rw [hold j hj2, hend] at he; exact absurd he.symm (hn j hj2)
    · omega
  · rcases List.mem_append.1 hx with hx | hx
    · obtain ⟨q, hq, he⟩ := h.all x hx
      exact ⟨q, by simp; omega, by rw [hold q hq]; exact he⟩
    · rw [List.mem_singleton] at hx
      subst hx
      exact ⟨rs.length, by simp, by rw [hend]⟩
end Go.Proofs.YtopidlcifaenjaaGreatDoor
/-! Maps with integer keys, as functions: what a look-up, a store, a deletion run to. Of no program of its own. -/
namespace Go.Proofs.YtopidlcifaenjaaGreatDoor
set_option linter.unusedVariables false
set_option linter.unusedSimpArgs false
open Go.RowKit Go.MapKept

/-- Block b is a map of n entries with integer keys: key a has g a. -/
structure MapI (w : World) (b : Nat) (q : IntKind) (g : Int → Option Value) (n : Nat) : Prop where
  h : ∃ es clock, w.heap[b]? = some (.map es clock) ∧ Stamped es clock ∧ (∀ x ∈ es.toList, IsKey (.int q) x.key) ∧ es.size = n ∧ ∀ a v, g a = some v ↔ ∃ x ∈ es.toList, x.key = .int q a ∧ x.val = v
/-- With another answer for one key. -/
def updG (g : Int → Option Value) (a : Int) (v : Option Value) : Int → Option Value := fun x => if x = a then v else g x
theorem updG_same (g : Int → Option Value) (a : Int) (v : Option Value) : updG g a v a = v := by simp [updG]
theorem updG_ne (g : Int → Option Value) {a x : Int} (v : Option Value) (h : x ≠ a) : updG g a v x = g x := by simp [updG, h]
namespace MapI
variable {w : World} {b : Nat} {q : IntKind} {g : Int → Option Value} {n : Nat}
theorem lt (h : MapI w b q g n) : b < w.heap.size := by
  obtain ⟨es, clock, h1, _⟩ := h.h
  rw [Array.getElem?_eq_some_iff] at h1; exact h1.1
theorem kept (h : MapI w b q g n) {w' : World} (e : w'.heap[b]? = w.heap[b]?) : MapI w' b q g n := by
  obtain ⟨es, clock, h1, h2⟩ := h.h
  exact ⟨es, clock, e.trans h1, h2⟩
theorem new (w : World) (q : IntKind) : MapI (w.alloc (.map #[] 0)) w.heap.size q (fun _ => none) 0 :=
  ⟨#[], 0, (heap_alloc w _).1, stamped_empty 0, by simp, rfl, by simp⟩
theorem isKey (q : IntKind) (a : Int) : IsKey (.int q) (.int q a) := by simp [IsKey]
theorem find (h : MapI w b q g n) (a : Int) : ∃ es clock, w.heap[b]? = some (.map es clock) ∧ ((g a = none ∧ Instr.findNow (.int q) (.int q a) es.toList 0 = some none ∧ ∀ x ∈ es.toList, x.key ≠ .int q a) ∨ ∃ j e, g a = some e.val ∧ Instr.findNow (.int q) (.int q a) es.toList 0 = some (some (j, e.val)) ∧ es[j]? = some e ∧ e.key = .int q a) := by
  obtain ⟨es, clock, h1, h2, h3, h4, h5⟩ := h.h
  refine ⟨es, clock, h1, ?_⟩
  rcases findNow_spec (isKey q a) es.toList 0 h3 with ⟨e1, e2⟩ | ⟨j, e, e1, e2, e3⟩
  · refine .inl ⟨?_, e1, e2⟩
    rcases hg : g a with _ | v
    · rfl
    · obtain ⟨x, hx, hk, _⟩ := (h5 a v).1 hg
      exact absurd hk (e2 x hx)
  · refine .inr ⟨j, e, (h5 a e.val).2 ⟨e, List.mem_of_getElem? e2, e3, rfl⟩, by simpa using e1, by simpa using e2, e3⟩
variable {P : Program} {t kt et : TypeId}
theorem look_hit (h : MapI w b q g n) (hm : P.underlying t = some (.map kt et)) (hd : P.underlying kt = some (.int q)) {a : Int} {v : Value} (ha : g a = some v) (ok : Bool) :
    (Instr.lookup t (.map (some b)) (.int q a) ok).run P w = .ok (if ok then .tuple #[v, .bool true] else v) w := by
  obtain ⟨es, clock, h1, h2 | ⟨j, e, h2, h3, h4, h5⟩⟩ := h.find a
  · rw [ha] at h2; cases h2.1
  · rw [ha] at h2; simp only [Option.some.injEq] at h2; subst h2
    have hck := run_checkKey (P := P) (w := w) hd (isKey q a) es.isEmpty 9999
    simp only [Instr.lookup, Sem.run_bind, run_underlying hm, MapKept.run_getObj_map h1, Sem.run_pure, Result.andThen]
    simp [hck, run_findKey hd h3, Result.andThen]
theorem look_miss (h : MapI w b q g n) (hm : P.underlying t = some (.map kt et)) (hd : P.underlying kt = some (.int q)) {z : Value} (hz : ∀ w, (zeroValue et).run P w = .ok z w) {a : Int} (ha : g a = none) (ok : Bool) :
    (Instr.lookup t (.map (some b)) (.int q a) ok).run P w = .ok (if ok then .tuple #[z, .bool false] else z) w := by
  obtain ⟨es, clock, h1, h2 | ⟨j, e, h2, h3, h4, h5⟩⟩ := h.find a
  · have hck := run_checkKey (P := P) (w := w) hd (isKey q a) es.isEmpty 9999
    simp only [Instr.lookup, Sem.run_bind, run_underlying hm, MapKept.run_getObj_map h1, Sem.run_pure, Result.andThen]
    simp [hck, run_findKey hd h2.2.1, hz, Result.andThen]
  · rw [ha] at h2; cases h2
theorem len (h : MapI w b q g n) (hm : P.underlying t = some (.map kt et)) (ty : TypeId) : (Builtin.len_ #[t] ty #[.map (some b)]).run P w = .ok (.int .i64 n) w := by
  obtain ⟨es, clock, h1, _, _, h2, _⟩ := h.h
  subst h2
  simp [Builtin.len_, run_underlying hm, MapKept.run_getObj_map h1, Result.andThen, goInt]
theorem set_only {o : Obj} {w : World} {b : Nat} {es : Array MapEntry} {clock : Nat} (h1 : w.heap[b]? = some (.map es clock)) : Only b b w { w with heap := w.heap.setIfInBounds b o } :=
  ⟨rfl, rfl, rfl, by simp, fun k _ hk _ => (heap_set h1).2 k hk⟩
theorem store (h : MapI w b q g n) (hm : P.underlying t = some (.map kt et)) (hd : P.underlying kt = some (.int q)) (a : Int) (v : Value) :
    ∃ w', (Instr.mapUpdate t (.map (some b)) (.int q a) v).run P w = .ok () w' ∧ MapI w' b q (updG g a (some v)) (if g a = none then n + 1 else n) ∧ Only b b w w' := by
  obtain ⟨es, clock, h1, hs, hk, hn, hg⟩ := h.h
  rcases findNow_spec (isKey q a) es.toList 0 hk with ⟨e1, e2⟩ | ⟨j, e, e1, e2, e3⟩
  · have hga : g a = none := by
      rcases hga : g a with _ | v
      · rfl
      · obtain ⟨x, hx, hk, _⟩ := (hg a v).1 hga
        exact absurd hk (e2 x hx)
    rw [if_pos hga]
    refine ⟨{ w with heap := w.heap.setIfInBounds b (.map (es.push { key := .int q a, val := v, born := clock }) (clock + 1)) }, by simp [Instr.mapUpdate, run_underlying hm, MapKept.run_getObj_map h1, run_checkKey hd (isKey q a), run_findKey hd e1, run_setObj_map _ h1, Result.andThen], ⟨_, _, (heap_set h1).1, stamped_push hs e2, ?_, by simp [hn], ?_⟩, set_only h1⟩
    · intro x hx
      simp only [Array.toList_push, List.mem_append, List.mem_singleton] at hx
      rcases hx with hx | rfl
      · exact hk x hx
      · exact isKey q a
    · intro c u
      simp only [Array.toList_push, List.mem_append, List.mem_singleton, updG]
      split
      · rename_i e; subst e
        constructor
        · intro hu; simp only [Option.some.injEq] at hu; exact ⟨_, .inr rfl, rfl, hu⟩
        · rintro ⟨x, hx | rfl, hxk, hxv⟩
          · exact absurd hxk (e2 x hx)
          · rw [← hxv]
      · rename_i hne
        rw [hg]
        constructor
        · rintro ⟨x, hx, r⟩; exact ⟨x, .inl hx, r⟩
        · rintro ⟨x, hx | rfl, hxk, hxv⟩
          · exact ⟨x, hx, hxk, hxv⟩
          · simp only [Value.int.injEq] at hxk; exact absurd hxk.2.symm hne
  · have hj : es[j]? = some e := by simpa using e2
    have hga : g a ≠ none := fun hc => by
      have := (hg a e.val).2 ⟨e, List.mem_of_getElem? e2, e3, rfl⟩
      rw [hc] at this; cases this
    rw [if_neg hga]
    have hkey : ∀ e', es[j]? = some e' → ({ e' with key := .int q a, val := v } : MapEntry).key = e'.key := fun e' he' => by rw [hj] at he'; cases he'; exact e3.symm
    refine ⟨{ w with heap := w.heap.setIfInBounds b (.map (es.modify j fun e => { e with key := .int q a, val := v }) clock) }, by simp [Instr.mapUpdate, run_underlying hm, MapKept.run_getObj_map h1, run_checkKey hd (isKey q a), run_findKey hd e1, hj, e3, run_keyThatStays (isKey q a), run_setObj_map _ h1, Result.andThen], ⟨_, _, (heap_set h1).1, stamped_modify hs _ _ (fun _ _ => rfl) (fun e' _ he' => hkey e' he'), isKey_modify hk _ _ hkey, by simpa using hn, ?_⟩, set_only h1⟩
    have hst := (stamped_iff es clock).1 hs
    intro c u
    have hmem : ∀ x, x ∈ (es.modify j fun e => { e with key := .int q a, val := v }).toList ↔ (x ∈ es.toList ∧ x.key ≠ .int q a) ∨ x = { e with key := .int q a, val := v } := by
      intro x
      have hp := hst.2.2
      constructor
      · intro hx
        obtain ⟨i, hi⟩ := List.mem_iff_getElem?.1 hx
        rw [Array.getElem?_toList, Array.getElem?_modify] at hi
        split at hi
        · rename_i e; subst e
          rw [hj] at hi; simp only [Option.map_some, Option.some.injEq] at hi
          exact .inr hi.symm
        · rename_i hne
          refine .inl ⟨by rw [← Array.getElem?_toList] at hi; exact List.mem_of_getElem? hi, fun hxk => ?_⟩
          have hi' : es.toList[i]? = some x := by rw [Array.getElem?_toList]; exact hi
          obtain ⟨hi1, hi2⟩ := List.getElem?_eq_some_iff.1 hi'
          obtain ⟨hj1, hj2⟩ := List.getElem?_eq_some_iff.1 e2
          rcases Nat.lt_or_gt_of_ne hne with h | h
          · exact List.pairwise_iff_getElem.1 hp j i hj1 hi1 h (by rw [hi2, hj2, e3, hxk])
          · exact List.pairwise_iff_getElem.1 hp i j hi1 hj1 h (by rw [hi2, hj2, e3, hxk])
      · rintro (⟨hx, hxk⟩ | rfl)
        · obtain ⟨i, hi⟩ := List.mem_iff_getElem?.1 hx
          have hne : j ≠ i := fun e => by
            subst e
            rw [e2] at hi; simp only [Option.some.injEq] at hi; subst hi; exact hxk e3
          refine List.mem_iff_getElem?.2 ⟨i, ?_⟩
          rw [Array.getElem?_toList, Array.getElem?_modify, if_neg hne, ← Array.getElem?_toList]; exact hi
        · refine List.mem_iff_getElem?.2 ⟨j, ?_⟩
          rw [Array.getElem?_toList, Array.getElem?_modify, if_pos rfl, hj]; rfl
    simp only [updG]
    split
    · rename_i ec; subst ec
      constructor
      · intro hu; simp only [Option.some.injEq] at hu; exact ⟨_, (hmem _).2 (.inr rfl), rfl, hu⟩
      · rintro ⟨x, hx, hxk, hxv⟩
        rcases (hmem x).1 hx with ⟨_, h⟩ | rfl
        · exact absurd hxk h
        · rw [← hxv]
    · rename_i hne
      rw [hg]
      constructor
      · rintro ⟨x, hx, hxk, hxv⟩
        exact ⟨x, (hmem x).2 (.inl ⟨hx, fun h => hne (by rw [hxk] at h; simp only [Value.int.injEq] at h; exact h.2)⟩), hxk, hxv⟩
      · rintro ⟨x, hx, hxk, hxv⟩
        rcases (hmem x).1 hx with ⟨h, _⟩ | rfl
        · exact ⟨x, h, hxk, hxv⟩
        · simp only [Value.int.injEq] at hxk; exact absurd hxk.2.symm hne
theorem del (h : MapI w b q g n) (hm : P.underlying t = some (.map kt et)) (hd : P.underlying kt = some (.int q)) (ty : TypeId) (a : Int) :
    ∃ w', (Builtin.delete_ #[t, kt] ty #[.map (some b), .int q a]).run P w = .ok (.tuple #[]) w' ∧ MapI w' b q (updG g a none) (if g a = none then n else n - 1) ∧ Only b b w w' := by
  obtain ⟨es, clock, h1, hs, hk, hn, hg⟩ := h.h
  rcases findNow_spec (isKey q a) es.toList 0 hk with ⟨e1, e2⟩ | ⟨j, e, e1, e2, e3⟩
  · have hga : g a = none := by
      rcases hga : g a with _ | v
      · rfl
      · obtain ⟨x, hx, hk, _⟩ := (hg a v).1 hga
        exact absurd hk (e2 x hx)
    rw [if_pos hga]
    refine ⟨_, by simp [Builtin.delete_, run_underlying hm, MapKept.run_getObj_map h1, run_checkKey hd (isKey q a), run_findKey hd e1, run_setObj_map _ h1, Result.andThen], ⟨_, _, (heap_set h1).1, hs, hk, hn, fun c u => ?_⟩, set_only h1⟩
    simp only [updG]
    split
    · rename_i ec; subst ec
      rw [← hga]; exact hg _ u
    · exact hg c u
  · have hj : es[j]? = some e := by simpa using e2
    have hga : g a ≠ none := fun hc => by
      have := (hg a e.val).2 ⟨e, List.mem_of_getElem? e2, e3, rfl⟩
      rw [hc] at this; cases this
    rw [if_neg hga]
    have hjs : j < es.size := by rw [Array.getElem?_eq_some_iff] at hj; exact hj.1
    have hlist : (es.eraseIdxIfInBounds j).toList = es.toList.eraseIdx j := by
      unfold Array.eraseIdxIfInBounds
      rw [dif_pos hjs, Array.toList_eraseIdx]
    have hst := (stamped_iff es clock).1 hs
    have hmem : ∀ x, x ∈ (es.eraseIdxIfInBounds j).toList ↔ x ∈ es.toList ∧ x.key ≠ .int q a := by
      intro x
      rw [hlist, List.mem_eraseIdx_iff_getElem?]
      constructor
      · rintro ⟨i, hne, hi⟩
        refine ⟨List.mem_of_getElem? hi, fun hxk => ?_⟩
        obtain ⟨hi1, hi2⟩ := List.getElem?_eq_some_iff.1 hi
        obtain ⟨hj1, hj2⟩ := List.getElem?_eq_some_iff.1 e2
        rcases Nat.lt_or_gt_of_ne hne with h | h
        · exact List.pairwise_iff_getElem.1 hst.2.2 i j hi1 hj1 h (by rw [hi2, hj2, e3, hxk])
        · exact List.pairwise_iff_getElem.1 hst.2.2 j i hj1 hi1 h (by rw [hi2, hj2, e3, hxk])
      · rintro ⟨hx, hxk⟩
        obtain ⟨i, hi⟩ := List.mem_iff_getElem?.1 hx
        refine ⟨i, fun e => ?_, hi⟩
        subst e
        rw [e2] at hi; simp only [Option.some.injEq] at hi; subst hi; exact hxk e3
    refine ⟨_, by simp [Builtin.delete_, run_underlying hm, MapKept.run_getObj_map h1, run_checkKey hd (isKey q a), run_findKey hd e1, run_setObj_map _ h1, Result.andThen], ⟨_, _, (heap_set h1).1, stamped_erase hs _, fun x hx => hk x ((hmem x).1 hx).1, ?_, fun c u => ?_⟩, set_only h1⟩
    · have : (es.eraseIdxIfInBounds j).toList.length = es.toList.length - 1 := by rw [hlist, List.length_eraseIdx]; simp [hjs]
      rw [Array.length_toList, Array.length_toList, hn] at this; exact this
    · simp only [updG]
      split
      · rename_i ec; subst ec
        constructor
        · intro h; cases h
        · rintro ⟨x, hx, hxk, _⟩
          exact absurd hxk ((hmem x).1 hx).2
      · rename_i hne
        rw [hg]
        constructor
        · rintro ⟨x, hx, hxk, hxv⟩
          exact ⟨x, (hmem x).2 ⟨hx, fun h => hne (by rw [hxk] at h; simp only [Value.int.injEq] at h; exact h.2)⟩, hxk, hxv⟩
        · rintro ⟨x, hx, hxk, hxv⟩
          exact ⟨x, ((hmem x).1 hx).1, hxk, hxv⟩
end MapI
end Go.Proofs.YtopidlcifaenjaaGreatDoor
/-! tally.All's map: each goroutine's place among the rows. -/
namespace Go.Proofs.YtopidlcifaenjaaGreatDoor
open Go.RowKit
set_option linter.unusedVariables false
set_option linter.unusedSimpArgs false
theorem undTI9 : Tryz.prog.underlying 3 = some (.int .i64) := by kernel_rfl
theorem undM9 : Tryz.prog.underlying 40 = some (.map 3 3) := by kernel_rfl
theorem zeroM9 (w : World) : (zeroValue 3).run Tryz.prog w = .ok (.int .i64 0) w := by kernel_rfl
theorem mkM9 (w : World) : (Instr.makeMap 40 none).run Tryz.prog w = .ok (.map (some w.heap.size)) (w.alloc (.map #[] 0)) := rfl
/-- A map that tells each row's place. -/
def Pm (w : World) (b : Nat) (rs : List Rw) : Prop := ∃ g, MapI w b .i64 g rs.length ∧ ∀ a v, g a = some v ↔ ∃ r : Nat, r < rs.length ∧ (rwAt rs r).1 = a ∧ v = .int .i64 r
theorem Pm.new (w : World) : Pm (w.alloc (.map #[] 0)) w.heap.size [] := ⟨_, MapI.new w .i64, fun a v => by simp⟩
theorem Pm.lt {w : World} {b : Nat} {rs : List Rw} (h : Pm w b rs) : b < w.heap.size := by obtain ⟨g, h1, _⟩ := h; exact h1.lt
theorem Pm.kept {w w' : World} {b : Nat} {rs : List Rw} (h : Pm w b rs) (e : w'.heap[b]? = w.heap[b]?) : Pm w' b rs := by obtain ⟨g, h1, h2⟩ := h; exact ⟨g, h1.kept e, h2⟩
theorem Pm.same {w : World} {b : Nat} {rs rs' : List Rw} (h : Pm w b rs) (hl : rs'.length = rs.length) (hg : ∀ r, r < rs.length → (rwAt rs' r).1 = (rwAt rs r).1) : Pm w b rs' := by
  obtain ⟨g, h1, h2⟩ := h
  refine ⟨g, by rw [hl]; exact h1, fun a v => (h2 a v).trans ?_⟩
  constructor
  · rintro ⟨r, hr, h3, h4⟩; exact ⟨r, by omega, by rw [hg r hr]; exact h3, h4⟩
  · rintro ⟨r, hr, h3, h4⟩; exact ⟨r, by omega, by rw [← hg r (by omega)]; exact h3, h4⟩
theorem Pm.none {w : World} {b : Nat} {rs : List Rw} {a : Int} {g : Int → Option Value} (h2 : ∀ a v, g a = some v ↔ ∃ r : Nat, r < rs.length ∧ (rwAt rs r).1 = a ∧ v = .int .i64 r) (ha : ∀ r, r < rs.length → (rwAt rs r).1 ≠ a) : g a = .none := by
  rcases hg : g a with _ | v
  · rfl
  · obtain ⟨r, hr, h3, _⟩ := (h2 a v).1 hg
    exact absurd h3 (ha r hr)
theorem Pm.miss {w : World} {b : Nat} {rs : List Rw} (h : Pm w b rs) {a : Int} (ha : ∀ r, r < rs.length → (rwAt rs r).1 ≠ a) (ok : Bool) : (Instr.lookup 40 (.map (some b)) (.int .i64 a) ok).run Tryz.prog w = .ok (if ok then .tuple #[.int .i64 0, .bool false] else .int .i64 0) w := by
  obtain ⟨g, h1, h2⟩ := h
  exact h1.look_miss undM9 undTI9 zeroM9 (Pm.none (w := w) (b := b) h2 ha) ok
theorem Pm.hit {w : World} {b : Nat} {rs : List Rw} (h : Pm w b rs) {a : Int} {r : Nat} (hr : r < rs.length) (ha : (rwAt rs r).1 = a) (ok : Bool) : (Instr.lookup 40 (.map (some b)) (.int .i64 a) ok).run Tryz.prog w = .ok (if ok then .tuple #[.int .i64 r, .bool true] else .int .i64 r) w := by
  obtain ⟨g, h1, h2⟩ := h
  exact h1.look_hit undM9 undTI9 ((h2 a _).2 ⟨r, hr, ha, rfl⟩) ok
theorem Pm.put {w : World} {b : Nat} {rs : List Rw} (h : Pm w b rs) {a : Int} (ha : ∀ r, r < rs.length → (rwAt rs r).1 ≠ a) (x : Rw) (hx : x.1 = a) : ∃ w', (Instr.mapUpdate 40 (.map (some b)) (.int .i64 a) (.int .i64 rs.length)).run Tryz.prog w = .ok () w' ∧ Pm w' b (rs ++ [x]) ∧ Only b b w w' := by
  obtain ⟨g, h1, h2⟩ := h
  obtain ⟨w', r, m, o⟩ := h1.store undM9 undTI9 a (.int .i64 rs.length)
  have hn := Pm.none (w := w) (b := b) h2 ha
  rw [if_pos hn] at m
  refine ⟨w', r, ⟨_, by rw [List.length_append, List.length_singleton]; exact m, fun c v => ?_⟩, o⟩
  by_cases hc : c = a
  · subst hc
    rw [updG_same]
    constructor
    · intro hv
      simp only [Option.some.injEq] at hv
      exact ⟨rs.length, by simp, by rw [rwAt_end]; exact hx, hv.symm⟩
    · rintro ⟨q, hq, h3, rfl⟩
      simp at hq
      rcases Nat.lt_or_ge q rs.length with l | l
      · rw [rwAt_app _ l] at h3; exact absurd h3 (ha q l)
      · obtain rfl : q = rs.length := by omega
        rfl
  · rw [updG_ne _ _ hc, h2]
    constructor
    · rintro ⟨q, hq, h3, h4⟩; exact ⟨q, by simp; omega, by rw [rwAt_app _ hq]; exact h3, h4⟩
    · rintro ⟨q, hq, h3, h4⟩
      simp at hq
      rcases Nat.lt_or_ge q rs.length with l | l
      · exact ⟨q, l, by rw [rwAt_app _ l] at h3; exact h3, h4⟩
      · obtain rfl : q = rs.length := by omega
        rw [rwAt_end, hx] at h3; exact absurd h3.symm hc
end Go.Proofs.YtopidlcifaenjaaGreatDoor
