/- poll.Poll's Len, full, least, Due: ranges over maps. -/
import Derived.Test.YtcfgkblonnmblaaPoll
namespace Go.Proofs.Ytcfgkblonnmblaa
set_option linter.unusedVariables false
set_option linter.unusedSimpArgs false
open Go.RowKit
section
variable {Z : Nat → Prop} {w w' : World} {p b1 b2 b3 : Nat} {W : List (Int × Int)} {R : List Int}
theorem only_below {r : Nat} (o : Only r r w w') {B : Nat} (h : B ≤ r) (hs : B ≤ w.heap.size) : Below B w w' := o.below h h hs
/-- What stands within a range over one of the poll's maps: the poll as it was, an iterator. -/
structure Pr (Z : Nat → Prop) (w0 : World) (p b1 b2 b3 : Nat) (W : List (Int × Int)) (R : List Int) (b r : Nat) (q : IntKind) (g : Int → Option Value) (n : Nat) (left : Int → Bool) (cnt : Nat) (wr : World) : Prop where
  pq : Pq Z wr p b1 b2 b3 W R
  rg : RgI wr b r q g n left cnt
  bl : Below w0.heap.size w0 wr
  rw0 : r = w0.heap.size
  far : p < r ∧ b1 < r ∧ b2 < r ∧ b3 < r
theorem Pr.next {w0 : World} {b r : Nat} {q : IntKind} {g : Int → Option Value} {n : Nat} {left : Int → Bool} {cnt : Nat} {wr : World} (h : Pr Z w0 p b1 b2 b3 W R b r q g n left cnt wr) {P : Program} :
    (cnt = 0 ∧ (∀ a, left a = false) ∧ ∀ ty, (Instr.next (.pointer (some ⟨r, 0, none⟩)) false ty).run P wr = .ok (.tuple #[.bool false]) wr) ∨
    ∃ a v w' cnt', left a = true ∧ g a = some v ∧ (∀ ty, (Instr.next (.pointer (some ⟨r, 0, none⟩)) false ty).run P wr = .ok (.tuple #[.bool true, .int q a, v]) w') ∧
      Pr Z w0 p b1 b2 b3 W R b r q g n (strike left a) cnt' w' ∧ cnt' < cnt ∧ (Instr.entry (.pointer (some ⟨r, 0, none⟩))).run P w' = .ok (.tuple #[.int q a, v]) w' := by
  rcases h.rg.next (P := P) with h1 | ⟨a, v, w', cnt', e1, e2, e3, e4, e5, e6, e7⟩
  · exact .inl h1
  · obtain ⟨f1, f2, f3, f4⟩ := h.far
    obtain ⟨l1, l2, l3, l4⟩ := h.pq.lt
    have k : ∀ x, x < r → x < wr.heap.size → w'.heap[x]? = wr.heap[x]? := fun x hx hl => e6.block x hl (by omega) (by omega)
    exact .inr ⟨a, v, w', cnt', e1, e2, e3, ⟨h.pq.kept (k _ f1 l1) (k _ f2 l2) (k _ f3 l3) (k _ f4 l4), e4, h.bl.trans (e6.below (by rw [h.rw0]; exact Nat.le_refl _) (by rw [h.rw0]; exact Nat.le_refl _) h.bl.size), h.rw0, h.far⟩, e5, e7⟩
theorem Pr.start (h : Pq Z w p b1 b2 b3 W R) {b : Nat} {q : IntKind} {g : Int → Option Value} {n : Nat} (hm : MapI w b q g n) {P : Program} {t kt et : TypeId} (hu : P.underlying t = some (.map kt et)) :
    ∃ o, (Instr.range t (.map (some b))).run P w = .ok (.pointer (some ⟨w.heap.size, 0, none⟩)) (w.alloc o) ∧ Pr Z w p b1 b2 b3 W R b w.heap.size q g n (fun a => (g a).isSome) n (w.alloc o) := by
  obtain ⟨o, h1, h2⟩ := RgI.start (P := P) (t := t) hm hu
  obtain ⟨l1, l2, l3, l4⟩ := h.lt
  exact ⟨o, h1, h.below (bl_al w o), h2, bl_al w o, rfl, by omega⟩
theorem cntR_zero (left : Int → Bool) (hl : ∀ a, a ∈ R → left a = true) : cntR W R left = 0 := by
  unfold cntR
  rw [List.filter_eq_nil_iff.2 fun a ha => by simp [hl a ha]]; rfl
theorem cntR_all (left : Int → Bool) (hl : ∀ a, left a = false) : cntR W R left = (R.filter fun a => !waitsF W a).length := by
  unfold cntR
  exact filt_same fun x hx => by simp [hl x]
theorem cntR_on {left : Int → Bool} {a : Int} (hn : R.Nodup) (ha : a ∈ R) (hl : left a = true) (hw : waitsF W a = false) : cntR W R (strike left a) = cntR W R left + 1 :=
  filt_step hn ha (by simp [hl]) (by simp [strike, hw]) (fun x _ hx => by
    have : (x == a) = false := by simpa using hx
    simp [strike, this])
theorem cntR_off {left : Int → Bool} {a : Int} (hw : waitsF W a = true) : cntR W R (strike left a) = cntR W R left :=
  filt_same fun x hx => by
    by_cases hxa : x = a
    · subst hxa; simp [hw]
    · have : (x == a) = false := by simpa using hxa
      simp [strike, this]
set_option maxHeartbeats 8000000 in
theorem plen_r (h : Pq Z w p b1 b2 b3 W R) (hl : W.length < 1000000 ∧ R.length < 1000000) : Calls Try.prog 13 #[.pointer (some ⟨p, 0, none⟩)] w fun e w' => e = .returned (.int .i64 (plen W R)) ∧ Below w.heap.size w w' := by
  obtain ⟨g3, q3, s3⟩ := h.m3
  obtain ⟨g1, q1, s1⟩ := h.m1
  have L1 := q1.len und1
  have c0 : w.cell? ⟨p, 0, none⟩ = some (.map (some b1)) := cellx h.box rfl
  have c2 : w.cell? ⟨p, 2, none⟩ = some (.map (some b3)) := cellx h.box rfl
  obtain ⟨o, hrg, S0⟩ := Pr.start h q3 und3
  have HS := hid S0
  have H3 := hid s3
  have HN := hid h.n3
  obtain ⟨m0, hm0⟩ : ∃ m0, m0 = W.length := ⟨_, rfl⟩
  have HM := hid hm0
  have hm0' : m0 < 1000000 := by omega
  have hrl := hl.2
  rw [← hm0] at L1
  clear h q3 q1 s1 S0 s3 hm0 hl
  go_enter Try.func13, Try.ntmps13
  go_wp2_with fail
  obtain ⟨r, hr⟩ : ∃ r, r = w.heap.size := ⟨_, rfl⟩
  rw [← hr] at HS
  rw [← hr]
  clear hr hrg
  go_loopw [3] (fun v wr => ∃ (left : Int → Bool) (cnt m : Nat), v = .int .i64 m ∧ m ≤ m0 + R.length ∧ Hid (m = m0 + cntR W R left) ∧ Hid (Pr Z w p b1 b2 b3 W R b3 r .u16 g3 R.length left cnt wr)) (fun _ wr => leftI wr b3 r)
  case atStart => 
    refine ⟨_, _, m0, rfl, by omega, hid ?_, HS⟩
    rw [cntR_zero _ (fun a ha => by rw [H3.out, if_pos ha]; rfl)]; rfl
  case round =>
    clear HS
    obtain ⟨left, cnt, m, rfl, hmm, HC, F⟩ := hrel
    rcases F.out.next (P := Try.prog) with ⟨h0, hl, hnx⟩ | ⟨a, v, w', cnt', e1, e2, hnx, F', hlt, hen⟩
    · have FIN := hid (show (m : Int) = (plen W R : Int) by
        have := HC.out
        rw [cntR_all left hl, HM.out] at this
        unfold plen; omega)
      have BL := hid F.out.bl
      clear F h0 hl HC
      go_wp2
      go_ret
      exact ⟨by rw [← FIN.out]; rfl, BL.out⟩
    · have e2' := e2
      rw [H3.out] at e2'
      by_cases haR : a ∈ R
      · rw [if_pos haR] at e2'
        obtain rfl : v = .bool true := by injection e2' with e; exact e.symm
        have c0' : w'.cell? ⟨p, 0, none⟩ = some (.map (some b1)) := cellx F'.pq.box rfl
        have LE := hid (And.intro F.out.rg.left_eq F'.rg.left_eq)
        have HLT := hid hlt
        rcases hw : waitsF W a with _ | _
        · have lk := F'.pq.who_no hw true
          have HC2 := hid (show m + 1 = m0 + cntR W R (strike left a) by rw [cntR_on HN.out haR e1 hw, HC.out]; rfl)
          have hm2 : m + 1 ≤ m0 + R.length := by rw [HC2.out]; unfold cntR; have := List.length_filter_le (fun x => !(strike left a) x && !waitsF W x) R; omega
          have F2 := hid F'
          clear F HC F' e2 e2' e1 hw haR hlt
          go_wp2
          go_roundw
          case rel => exact ⟨_, cnt', m + 1, by go_num, hm2, HC2, F2⟩
          case measure => have := LE.out.1; have := LE.out.2; have := HLT.out; omega
        · obtain ⟨y, hy⟩ := waitsF_mem hw
          have lk := F'.pq.who_yes hy true
          have HC2 := hid (show m = m0 + cntR W R (strike left a) by rw [cntR_off hw, HC.out])
          have F2 := hid F'
          clear F HC F' e2 e2' e1 hw haR hlt hy
          go_wp2
          go_roundw
          case rel => exact ⟨_, cnt', m, rfl, hmm, HC2, F2⟩
          case measure => have := LE.out.1; have := LE.out.2; have := HLT.out; omega
      · rw [if_neg haR] at e2'; cases e2'
set_option maxHeartbeats 8000000 in
theorem pfull (h : Pq Z w p b1 b2 b3 W R) (hl : W.length < 1000000 ∧ R.length < 1000000) (a : Int) (r : Bool) (hr : (!waitsF W a && !decide (a ∈ R) && decide (1024 ≤ plen W R)) = r) :
    Calls Try.prog 23 #[.pointer (some ⟨p, 0, none⟩), .int .u16 a] w fun e w' => e = .returned (.bool r) ∧ Below w.heap.size w w' := by
  have c0 : w.cell? ⟨p, 0, none⟩ = some (.map (some b1)) := cellx h.box rfl
  have c2 : w.cell? ⟨p, 2, none⟩ = some (.map (some b3)) := cellx h.box rfl
  have LN := hid (plen_r h hl)
  rcases hw : waitsF W a with _ | _
  · have lk := h.who_no hw true
    rcases ha : decide (a ∈ R) with _ | _
    · have rl := h.rdy a false ha
      rw [hw, ha] at hr
      simp only [Bool.not_false, Bool.true_and] at hr
      obtain ⟨m, hm⟩ : ∃ m, m = plen W R := ⟨_, rfl⟩
      rw [← hm] at LN hr
      have hr2 : decide (1024 ≤ m) = r := hr
      clear h hw ha hm hr
      go_enter Try.func23, Try.ntmps23
      go_wp2_with fail
      refine (LN.out).mono ?_
      rintro e w2 ⟨rfl, b2'⟩
      have B := hid b2'
      have E := hid (show decide ((1024 : Int) ≤ (m : Int)) = r by rw [← hr2]; exact decide_eq_decide.2 (by omega))
      clear b2' LN lk rl c0 c2 hr2
      go_wp2
      go_ret
      exact ⟨(show Ending.returned (.bool (decide ((1024 : Int) ≤ (m : Int)))) = _ by rw [E.out]), B.out⟩
    · have rl := h.rdy a true ha
      obtain rfl : r = false := by rw [← hr, hw, ha]; rfl
      clear h hw ha hr LN
      go_enter Try.func23, Try.ntmps23
      go_wp2
      go_ret
      exact ⟨rfl, Below.refl _ _⟩
  · obtain ⟨y, hy⟩ := waitsF_mem hw
    have lk := h.who_yes hy true
    obtain rfl : r = false := by rw [← hr, hw]; rfl
    clear h hw hr LN hy
    go_enter Try.func23, Try.ntmps23
    go_wp2
    go_ret
    exact ⟨rfl, Below.refl _ _⟩
/-- Does somebody wait for it, and is it ready? -/
def dueP (W : List (Int × Int)) (R : List Int) (a : Int) : Bool := waitsF W a && decide (a ∈ R)
def LePost (W : List (Int × Int)) (R : List Int) (w : World) (e : Ending) (w' : World) : Prop :=
  (e = .returned (.tuple #[.int .u16 0, .bool false]) ∧ (∀ a, dueP W R a = false) ∧ Below w.heap.size w w') ∨
  ∃ m, e = .returned (.tuple #[.int .u16 m, .bool true]) ∧ dueP W R m = true ∧ (∀ a, dueP W R a = true → m ≤ a) ∧ Below w.heap.size w w'
theorem le_none {left : Int → Bool} (h : ∀ a, waitsF W a = true → left a = false → a ∉ R) {a : Int} (ha : a ∉ R) : ∀ x, waitsF W x = true → strike left a x = false → x ∉ R := fun x hw hl => by
  simp only [strike, Bool.and_eq_false_iff, Bool.not_eq_false', beq_iff_eq] at hl
  rcases hl with hl | rfl
  · exact h x hw hl
  · exact ha
theorem le_first {left : Int → Bool} (h : ∀ a, waitsF W a = true → left a = false → a ∉ R) (a : Int) : ∀ x, waitsF W x = true → strike left a x = false → x ∈ R → a ≤ x := fun x hw hl hx => by
  simp only [strike, Bool.and_eq_false_iff, Bool.not_eq_false', beq_iff_eq] at hl
  rcases hl with hl | rfl
  · exact absurd hx (h x hw hl)
  · exact Int.le_refl _
theorem le_more {left : Int → Bool} {m n a : Int} (h : ∀ a, waitsF W a = true → left a = false → a ∈ R → m ≤ a) (hn : n ≤ m) (ha : a ∈ R → n ≤ a) : ∀ x, waitsF W x = true → strike left a x = false → x ∈ R → n ≤ x := fun x hw hl hx => by
  simp only [strike, Bool.and_eq_false_iff, Bool.not_eq_false', beq_iff_eq] at hl
  rcases hl with hl | rfl
  · have := h x hw hl hx; omega
  · exact ha hx
set_option maxHeartbeats 8000000 in
theorem pleast (h : Pq Z w p b1 b2 b3 W R) : Calls Try.prog 24 #[.pointer (some ⟨p, 0, none⟩)] w (LePost W R w) := by
  obtain ⟨g1, q1, s1⟩ := h.m1
  have c0 : w.cell? ⟨p, 0, none⟩ = some (.map (some b1)) := cellx h.box rfl
  obtain ⟨o, hrg, S0⟩ := Pr.start h q1 und1
  have HS := hid S0
  have H1 := hid s1
  clear h q1 S0 s1
  go_enter Try.func24, Try.ntmps24
  go_wp2_with fail
  obtain ⟨r, hr⟩ : ∃ r, r = w.heap.size := ⟨_, rfl⟩
  rw [← hr] at HS
  rw [← hr]
  clear hr hrg
  go_loopw [2, 3] (fun v s wr => ∃ (left : Int → Bool) (cnt : Nat), ((v = .int .u16 0 ∧ s = .bool false ∧ Hid (∀ a, waitsF W a = true → left a = false → a ∉ R)) ∨ ∃ m : Int, v = .int .u16 m ∧ s = .bool true ∧ Hid (dueP W R m = true ∧ ∀ a, waitsF W a = true → left a = false → a ∈ R → m ≤ a)) ∧ Hid (Pr Z w p b1 b2 b3 W R b1 r .u16 g1 W.length left cnt wr)) (fun _ _ wr => leftI wr b1 r)
  case atStart => 
    refine ⟨_, _, .inl ⟨rfl, rfl, hid (fun a hw hl => ?_)⟩, HS⟩
    obtain ⟨y, hy⟩ := waitsF_mem hw
    rw [(H1.out a _).2 ⟨y, hy, rfl⟩] at hl; cases hl
  case round =>
    clear HS
    obtain ⟨left, cnt, hst, F⟩ := hrel
    rcases F.out.next (P := Try.prog) with ⟨h0, hl, hnx⟩ | ⟨a, v, w', cnt', e1, e2, hnx, F', hlt, hen⟩
    · have HL := hid hl
      have BL := hid F.out.bl
      clear F h0 hl
      rcases hst with ⟨rfl, rfl, HC⟩ | ⟨m, rfl, rfl, HC⟩
      · go_wp2
        go_ret2
        refine .inl ⟨rfl, fun a => ?_, BL.out⟩
        rcases hw : waitsF W a with _ | _
        · simp [dueP, hw]
        · have := HC.out a hw (HL.out a)
          simp [dueP, this]
      · go_wp2
        go_ret2
        refine .inr ⟨m, rfl, HC.out.1, fun a ha => ?_, BL.out⟩
        simp only [dueP, Bool.and_eq_true, decide_eq_true_eq] at ha
        exact HC.out.2 a ha.1 (HL.out a) ha.2
    · obtain ⟨y, hy, rfl⟩ := (H1.out a v).1 e2
      have hwa : waitsF W a = true := decide_eq_true (List.mem_map.2 ⟨_, hy, rfl⟩)
      have c2' : w'.cell? ⟨p, 2, none⟩ = some (.map (some b3)) := cellx F'.pq.box rfl
      have LE := hid (And.intro F.out.rg.left_eq F'.rg.left_eq)
      have HLT := hid hlt
      have HWA := hid hwa
      have F2 := hid F'
      by_cases haR : a ∈ R
      · have rl := F'.pq.rdy a true (decide_eq_true haR)
        have HAR := hid haR
        clear F F' e1 e2 hy hwa haR hlt
        rcases hst with ⟨rfl, rfl, HC⟩ | ⟨m, rfl, rfl, HC⟩
        · have HC2 := hid (And.intro (show dueP W R a = true by simp [dueP, HWA.out, HAR.out]) (le_first HC.out a))
          go_wp2
          go_roundw
          case rel => exact ⟨_, cnt', .inr ⟨a, rfl, rfl, HC2⟩, F2⟩
          case measure => have := LE.out.1; have := LE.out.2; have := HLT.out; omega
        · by_cases ham : a < m
          · have HC2 := hid (And.intro (show dueP W R a = true by simp [dueP, HWA.out, HAR.out]) (le_more (n := a) (a := a) HC.out.2 (by omega) (fun _ => Int.le_refl _)))
            go_wp2
            go_roundw
            case rel => exact ⟨_, cnt', .inr ⟨a, rfl, rfl, HC2⟩, F2⟩
            case measure => have := LE.out.1; have := LE.out.2; have := HLT.out; omega
          · have HC2 := hid (And.intro HC.out.1 (le_more (n := m) (a := a) HC.out.2 (by omega) (fun _ => by omega)))
            have d1 : decide (a < m) = false := decide_eq_false ham
            go_wp2
            go_roundw
            case rel => exact ⟨_, cnt', .inr ⟨m, rfl, rfl, HC2⟩, F2⟩
            case measure => have := LE.out.1; have := LE.out.2; have := HLT.out; omega
      · have rl := F'.pq.rdy a false (decide_eq_false haR)
        have HAR := hid haR
        clear F F' e1 e2 hy hwa haR hlt
        rcases hst with ⟨rfl, rfl, HC⟩ | ⟨m, rfl, rfl, HC⟩
        · have HC2 := hid (le_none HC.out HAR.out)
          go_wp2
          go_roundw
          case rel => exact ⟨_, cnt', .inl ⟨rfl, rfl, HC2⟩, F2⟩
          case measure => have := LE.out.1; have := LE.out.2; have := HLT.out; omega
        · have HC2 := hid (And.intro HC.out.1 (le_more (n := m) (a := a) HC.out.2 (Int.le_refl _) (fun h => absurd h HAR.out)))
          go_wp2
          go_roundw
          case rel => exact ⟨_, cnt', .inr ⟨m, rfl, rfl, HC2⟩, F2⟩
          case measure => have := LE.out.1; have := LE.out.2; have := HLT.out; omega
/-- Is somebody due? -/
def anyDue (W : List (Int × Int)) (R : List Int) : Bool := W.any fun e => decide (e.1 ∈ R)
theorem anyDue_no (h : ∀ a, dueP W R a = false) : anyDue W R = false := by
  rw [anyDue, List.any_eq_false]
  intro e he
  have := h e.1
  have hw : waitsF W e.1 = true := decide_eq_true (List.mem_map.2 ⟨e, he, rfl⟩)
  simpa [dueP, hw] using this
theorem anyDue_yes {m : Int} (h : dueP W R m = true) : anyDue W R = true := by
  simp only [dueP, Bool.and_eq_true, decide_eq_true_eq] at h
  obtain ⟨y, hy⟩ := waitsF_mem h.1
  exact List.any_eq_true.2 ⟨_, hy, decide_eq_true h.2⟩
set_option maxHeartbeats 4000000 in
theorem pdue (h : Pq Z w p b1 b2 b3 W R) : Calls Try.prog 15 #[.pointer (some ⟨p, 0, none⟩)] w fun e w' => e = .returned (.bool (anyDue W R)) ∧ Below w.heap.size w w' := by
  have LT := hid (pleast h)
  clear h
  go_enter Try.func15, Try.ntmps15
  go_wp2_with fail
  refine (LT.out).mono ?_
  rintro e w2 (⟨rfl, h2, h3⟩ | ⟨m, rfl, h2, _, h3⟩)
  · have B := hid h3
    have H := hid (anyDue_no h2)
    clear h2 h3 LT
    go_wp2
    go_ret
    exact ⟨by rw [H.out]; rfl, B.out⟩
  · have B := hid h3
    have H := hid (anyDue_yes h2)
    clear h2 h3 LT
    go_wp2
    go_ret
    exact ⟨by rw [H.out]; rfl, B.out⟩
end
end Go.Proofs.Ytcfgkblonnmblaa
