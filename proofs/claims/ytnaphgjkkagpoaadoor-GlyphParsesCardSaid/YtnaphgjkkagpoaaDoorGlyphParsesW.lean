/- The walk of the statement GlyphParses: the law answers true and turns nothing that was there. -/
import Derived.Test.YtnaphgjkkagpoaaDoorGlyRq
import Derived.Test.YtnaphgjkkagpoaaDoorGlyS
import Derived.Test.YtnaphgjkkagpoaaDoorShAnd
import Derived.OpenShut
import Derived.BigQuiet
import Derived.Deep.CutRange
namespace Go.Proofs.YtnaphgjkkagpoaaDoor.glyphParses
open Go.RowKit
set_option linter.unusedVariables false
set_option linter.unusedSimpArgs false
set_option maxRecDepth 20000
theorem Parsed.unique {s : ByteArray} {es fs : List Ev} {ok ok' : Bool} {n n' : Nat} (h1 : Parsed s es ok n) (h2 : Parsed s fs ok' n') : es = fs ∧ ok = ok' ∧ n = n' := by
  have key : ∀ {es fs : List Ev} {ok ok' : Bool} {n n' : Nat}, Parsed s es ok n → Parsed s fs ok' n' → ¬ es.length < fs.length := by
    intro es fs ok ok' n n' h1 h2 hlt
    have l2 := h2.ws
    have hl := congrArg List.length l2
    rw [List.length_map, List.length_take] at hl
    cases ok with
    | true => have := (h1.yes rfl).1; omega
    | false =>
      obtain ⟨hw, hno, _⟩ := h1.no rfl
      refine hno fs[es.length] ⟨List.all_eq_true.1 h2.right _ (List.getElem_mem hlt), h2.fit _ (List.getElem_mem hlt), ?_⟩
      have e : (fs.map wordE)[es.length]? = ((wordsB s).take fs.length)[es.length]? := by rw [l2]
      rw [List.getElem?_take_of_lt hlt, List.getElem?_map, List.getElem?_eq_getElem hlt, List.getElem?_eq_getElem hw] at e
      simpa using e
  have hlen : es.length = fs.length := by
    have a := key h1 h2
    have b := key h2 h1
    omega
  have he : es = fs := by
    have e : es.map wordE = fs.map wordE := by rw [h1.ws, h2.ws, hlen]
    exact wordsL_inj h1.right h2.right (by unfold wordsL; rw [e])
  subst he
  cases ok with
  | true =>
    cases ok' with
    | true => exact ⟨rfl, rfl, (h1.yes rfl).2.trans (h2.yes rfl).2.symm⟩
    | false => obtain ⟨hw, _⟩ := h2.no rfl; have := (h1.yes rfl).1; omega
  | false =>
    cases ok' with
    | true => obtain ⟨hw, _⟩ := h1.no rfl; have := (h2.yes rfl).1; omega
    | false => exact ⟨rfl, rfl, AtIs.unique (h1.no rfl).2.2 (h2.no rfl).2.2⟩
theorem Parsed.text {s : ByteArray} {es : List Ev} {n : Nat} (h : Parsed s es true n) : textE es = s := by
  have e := h.ws
  rw [(h.yes rfl).1, List.take_length] at e
  apply ByteArray.ext
  apply Array.toList_inj.1
  show Lib.join (wordsL es) [32] = _
  unfold wordsL
  rw [e, wordsB_spl, join_spl]
/-- What both readings are of. -/
structure Both (s : ByteArray) (es : List Ev) (ok : Bool) (n : Nat) : Prop where
  right : allR es = true
  fit : ∀ e ∈ es, fitE e
  len : es.length ≤ s.size + 1
  text : ok = true → textE es = s ∧ n = 0
def PaP (s : ByteArray) (w : World) (es : List Ev) (ok : Bool) (n : Nat) (e : Ending) (w' : World) : Prop := ∃ v, e = .returned (.tuple #[v, .int .i64 n, .int .i64 (if ok then 0 else 5)]) ∧ RdE w' v es ∧ Below w.heap.size w w'
def RpP (s : ByteArray) (w : World) (es : List Ev) (ok : Bool) (n : Nat) (e : Ending) (w' : World) : Prop := ∃ v, e = .returned (.tuple #[v, .int .i64 (if ok then -1 else n)]) ∧ RdE w' v es ∧ Below w.heap.size w w'
theorem rparse_nil (w : World) : Calls Tryd.prog 17 #[.string { data := #[] }] w fun e w' => e = .returned (.tuple #[.slice none 0 0, .int .i64 (-1)]) ∧ w' = w := by
  have hse : ({ data := #[] } : ByteArray).toList.isEmpty = true := by rw [ByteArray.toList_eq]; rfl
  go_enter Tryd.func17, Tryd.ntmps17
  go_wp2
  exact bodyPost_ret (v := .tuple #[.slice none 0 0, .int .i64 (-1)]) (by simp [results, Tryd.results17, go_sem]) rfl ⟨rfl, rfl⟩
theorem nil_rd (w : World) : RdE w (.slice none 0 0) [] := ⟨none, 0, rfl, ⟨by simp, by simp [maxLen], .inl ⟨rfl, rfl⟩⟩, fun h => by simp at h⟩
/-- Both readings of a text. -/
theorem both (s : ByteArray) (hl : s.size ≤ 400) (w : World) (AT : ∀ w2 : World, Below w.heap.size w w2 → GlRunes w2 ∧ PwTab w2 ∧ ErrSy w2 ∧ ErrRa w2 ∧ MaxL w2) (w2 : World) (hb : Below w.heap.size w w2) :
    Calls Tryd.prog 13 #[.string s] w2 fun e w' => ∃ es ok n, Both s es ok n ∧ PaP s w2 es ok n e w' ∧ ∀ w3, Calls Tryd.prog 17 #[.string s] w3 (RpP s w3 es ok n) := by
  by_cases h0 : s.size = 0
  · have hs : s = { data := #[] } := by
      apply ByteArray.ext
      apply Array.toList_inj.1
      rw [Lib.size_eq] at h0
      exact List.length_eq_zero_iff.1 h0
    subst hs
    refine (parse_nil w2).mono ?_
    rintro e w' ⟨h1, rfl⟩
    exact ⟨[], true, 0, ⟨rfl, by simp, by simp, fun _ => ⟨rfl, rfl⟩⟩, ⟨_, h1, nil_rd _, Below.refl _ _⟩, fun w3 => (rparse_nil w3).mono fun e w' ⟨h1, h2⟩ => ⟨_, h1, nil_rd _, by subst h2; exact Below.refl _ _⟩⟩
  · refine (parse_any s (by omega) h0 w2 (AT w2 hb).1 (AT w2 hb).2.1 (AT w2 hb).2.2.1 (AT w2 hb).2.2.2.1 (AT w2 hb).2.2.2.2).mono ?_
    rintro e w' ⟨v, es, ok, n, h1, h2, h3, h4⟩
    refine ⟨es, ok, n, ⟨h2.right, h2.fit, h2.len, fun h => ?_⟩, ⟨v, h1, h3, h4⟩, fun w3 => (rparse_any s (by omega) h0 w3).mono fun e w' ⟨v', fs, ok', n', q1, q2, q3, q4⟩ => ?_⟩
    · subst h
      exact ⟨Parsed.text h2, (h2.yes rfl).2⟩
    · obtain ⟨rfl, rfl, rfl⟩ := Parsed.unique h2 q2
      exact ⟨v', q1, q3, q4⟩
set_option maxHeartbeats 8000000 in
theorem walk (a0 : ByteArray) (w : World) (w0 : a0.size ≤ maxLen) (R : GlRunes w) (T : PwTab w) (S : ErrSy w) (E : ErrRa w) (SH : w.ShapedOpen Tryd.prog) :
    Calls Tryd.prog 5 #[.string a0] w fun e w' => e = .returned (.bool true) ∧ Below w.heap.size w w' := by
  have M := MaxL.of SH
  have LV := hid (lives16 w R T)
  by_cases hbig : (400 : Int) < a0.size
  · have LV2 : Hid (∀ w2 : World, Below w.heap.size w w2 → Calls Tryd.prog 6 #[] w2 fun e w' => e = .returned (.bool true) ∧ Below w2.heap.size w2 w') := hid (fun w2 hb => lives16 w2 (R.at hb) (T.at hb))
    clear R T w0 S E SH M
    go_enter Tryd.func5, Tryd.ntmps5
    go_wp2_with fail
    refine LV.out.mono ?_
    rintro e w2 ⟨rfl, hb⟩
    have B2 := hid hb
    clear LV
    go_wp2_with fail
    refine (LV2.out w2 hb).mono ?_
    rintro e w3 ⟨rfl, hb3⟩
    have B3 := hid (B2.out.trans (hb3.mono B2.out.size))
    clear hb hb3 B2 LV2
    go_wp2
    go_ret
    exact ⟨rfl, B3.out⟩
  · have h0 : (a0.size : Int) ≤ 400 := by omega
    have l0 : a0.size ≤ 400 := by omega
    have AT : Hid (∀ w2 : World, Below w.heap.size w w2 → GlRunes w2 ∧ PwTab w2 ∧ ErrSy w2 ∧ ErrRa w2 ∧ MaxL w2) := hid (fun w2 hb => ⟨R.at hb, T.at hb, S.at hb, E.at hb, M.at hb⟩)
    have BO := hid (fun w2 hb => both a0 l0 w AT.out w2 hb)
    clear hbig R T S E SH M w0
    go_enter Tryd.func5, Tryd.ntmps5
    go_wp2_with fail
    refine LV.out.mono ?_
    rintro e w1 ⟨rfl, hb⟩
    have B1 := hid hb
    clear LV hb
    go_wp2_with fail
    refine (BO.out w1 B1.out).mono ?_
    rintro e w2 ⟨es, ok, n, hB, ⟨v, rfl, hv, hb⟩, hR⟩
    have B2 := hid (B1.out.trans (hb.mono B1.out.size))
    have HB := hid hB
    have HV := hid hv
    have HR := hid hR
    clear hB hv hR hb B1 BO
    have PR := hid (fun w3 (hb : Below w.heap.size w w3) (hv : RdE w3 v es) => print_any v es w3 (AT.out w3 hb).1 (AT.out w3 hb).2.1 hv HB.out.fit (by have := HB.out.len; omega))
    have SA := hid (fun w3 v1 v2 h1 h2 => same16 w3 v1 v2 es h1 h2 (by have := HB.out.len; omega))
    cases ok
    · have RP : Hid (∀ w3, Calls Tryd.prog 17 #[.string a0] w3 fun e w' => ∃ v, e = .returned (.tuple #[v, .int .i64 n]) ∧ RdE w' v es ∧ Below w3.heap.size w3 w') := hid (fun w3 => HR.out w3)
      simp only [Bool.false_eq_true, if_false]
      have nn : ¬ ((n : Int) < 0) := by omega
      clear HR PR
      go_wp2_with fail
      refine (RP.out _).mono ?_
      rintro e w3 ⟨v3, rfl, h3, hb⟩
      have B3 := hid (B2.out.trans (hb.mono B2.out.size))
      have SM := hid (SA.out w3 v v3 (HV.out.below hb) h3)
      clear hb h3 B2 HV RP SA
      go_wp2_with fail
      refine SM.out.mono ?_
      rintro e w4 ⟨rfl, hb⟩
      have B4 := hid (B3.out.trans (hb.mono B3.out.size))
      clear hb B3 SM
      go_wp2
      go_ret
      exact ⟨rfl, B4.out⟩
    · obtain ⟨ht, hn⟩ := HB.out.text rfl
      have RP : Hid (∀ w3, Calls Tryd.prog 17 #[.string a0] w3 fun e w' => ∃ v, e = .returned (.tuple #[v, .int .i64 (-1)]) ∧ RdE w' v es ∧ Below w3.heap.size w3 w') := hid (fun w3 => HR.out w3)
      have PR2 : Hid (∀ w3 (hb : Below w.heap.size w w3) (hv : RdE w3 v es), Calls Tryd.prog 7 #[v] w3 fun e w' => e = .returned (.tuple #[.string a0, .int .i64 0]) ∧ Below w3.heap.size w3 w') := hid (fun w3 hb hv => by
        have := PR.out w3 hb hv
        rw [HB.out.right, ht] at this
        exact this)
      subst hn
      simp only [if_true, Int.natCast_zero]
      have seq : (a0.toList == a0.toList) = true := by simp
      clear HR PR ht
      go_wp2_with fail
      refine (RP.out _).mono ?_
      rintro e w3 ⟨v3, rfl, h3, hb⟩
      have B3 := hid (B2.out.trans (hb.mono B2.out.size))
      have HV3 := hid (HV.out.below hb)
      have SM := hid (SA.out w3 v v3 HV3.out h3)
      clear hb h3 B2 HV RP SA
      go_wp2_with fail
      refine SM.out.mono ?_
      rintro e w4 ⟨rfl, hb⟩
      have B4 := hid (B3.out.trans (hb.mono B3.out.size))
      have PP := hid (PR2.out w4 B4.out (HV3.out.below hb))
      clear hb B3 SM PR2
      go_wp2_with fail
      refine PP.out.mono ?_
      rintro e w5 ⟨rfl, hb⟩
      have B5 := hid (B4.out.trans (hb.mono B4.out.size))
      clear hb B4 PP
      go_wp2
      go_ret
      exact ⟨rfl, B5.out⟩
end Go.Proofs.YtnaphgjkkagpoaaDoor.glyphParses
