/- glyph.Print over any row of events. -/
import Derived.Test.YtnaphgjkkagpoaaDoorGlyph2
import Derived.Test.YtnaphgjkkagpoaaDoorGlW
import Derived.Test.YtnaphgjkkagpoaaDoorRdE
import Derived.Maps.AppendAt
import Derived.OpenShut
namespace Go.Proofs.YtnaphgjkkagpoaaDoor
set_option linter.unusedVariables false
set_option linter.unusedSimpArgs false
open Go.RowKit

/-- An event's word, whether it may be, whether its value is one. -/
def wordE (e : Ev) : ByteArray := wordB e.1.toNat e.2.1 e.2.2.1 e.2.2.2.1 e.2.2.2.2
def rightE (e : Ev) : Bool := evRight e.1 e.2.1 e.2.2.1 e.2.2.2.1 e.2.2.2.2
def fitE (e : Ev) : Prop := -9223372036854775808 ≤ e.2.2.2.2 ∧ e.2.2.2.2 ≤ 9223372036854775807
def wordsL (es : List Ev) : List (List UInt8) := (es.map wordE).map (·.data.toList)
def textE (es : List Ev) : ByteArray := ⟨(Lib.join (wordsL es) [32]).toArray⟩
def allR (es : List Ev) : Bool := es.all rightE
theorem gl_list (k : Nat) (hk : k < 8) : (glText k).data.toList = Gw.gl k :=
  match k, hk with
  | 0, _ | 1, _ | 2, _ | 3, _ | 4, _ | 5, _ | 6, _ | 7, _ => rfl
theorem itoa_list (n : Int) : (itoaB n).data.toList = Lib.itoa n := rfl
theorem right_k {e : Ev} (h : rightE e = true) : ∃ k : Nat, e.1 = k ∧ k < 8 ∧ wordE e = wordB k e.2.1 e.2.2.1 e.2.2.2.1 e.2.2.2.2 := by
  obtain ⟨⟨h0, h8⟩, _⟩ := right_all h
  refine ⟨e.1.toNat, by omega, by omega, rfl⟩
theorem word_list {e : Ev} (h : rightE e = true) : (wordE e).data.toList = Gw.wl e.1.toNat e.2.1 e.2.2.1 e.2.2.2.1 e.2.2.2.2 := by
  obtain ⟨⟨h0, h8⟩, _⟩ := right_all h
  unfold wordE wordB wordP wordM wordG Gw.wl Gw.om Gw.op Gw.ov
  have hg := gl_list e.1.toNat (by omega)
  have hi := fun n => itoa_list n
  split <;> split <;> split <;> simp only [ByteArray.data_append, Array.toList_append, hg, hi, List.append_assoc, List.append_nil, List.nil_append, List.cons_append, List.singleton_append]
theorem word_size {e : Ev} (h : rightE e = true) (hf : fitE e) : (wordE e).data.toList.length ≤ 90 := by
  obtain ⟨⟨h0, h8⟩, hg, hm, hp⟩ := right_all h
  rw [word_list h]
  have t := text_size e.1.toNat (by omega)
  have z1 := Lib.itoa_length_le e.2.1 (by omega) (by omega)
  have z2 := Lib.itoa_length_le e.2.2.1 (by omega) (by omega)
  have z3 := Lib.itoa_length_le e.2.2.2.1 (by omega) (by omega)
  have z4 := Lib.itoa_length_le e.2.2.2.2 hf.1 hf.2
  have t2 : (Gw.gl e.1.toNat).length ≤ 3 := by rw [← gl_list _ (by omega)]; exact t
  unfold Gw.wl Gw.om Gw.op Gw.ov
  simp only [List.length_append]
  split <;> split <;> split <;> simp only [List.length_cons, List.length_nil] <;> omega
theorem lens_le : ∀ {xs : List (List UInt8)}, (∀ x ∈ xs, x.length ≤ 90) → Lib.lens xs ≤ xs.length * 90
  | [], _ => by simp [Lib.lens]
  | x :: xs, h => by
    have h1 := h x (by simp)
    have h2 := lens_le (xs := xs) (fun y hy => h y (by simp [hy]))
    simp only [Lib.lens, List.map_cons, List.sum_cons, List.length_cons] at h2 ⊢
    omega
theorem join_len {xs : List (List UInt8)} (h : ∀ x ∈ xs, x.length ≤ 90) : (Lib.join xs [32]).length ≤ xs.length * 100 := by
  cases xs with
  | nil => simp [Lib.join_nil]
  | cons x xs =>
    rw [Lib.join_cons, List.length_append, Lib.joinTail_length]
    have h1 := h x (by simp)
    have h2 := lens_le (xs := xs) (fun y hy => h y (by simp [hy]))
    simp only [List.length_cons, List.length_nil]
    omega
theorem wordsL_len (es : List Ev) : (wordsL es).length = es.length := by simp [wordsL]
theorem wordsL_90 {es : List Ev} (hr : allR es = true) (hf : ∀ e ∈ es, fitE e) : ∀ x ∈ wordsL es, x.length ≤ 90 := by
  intro x hx
  simp only [wordsL, List.map_map, List.mem_map, Function.comp] at hx
  obtain ⟨e, he, rfl⟩ := hx
  exact word_size (List.all_eq_true.1 hr e he) (hf e he)
/-- A row of texts that the walk owns. -/
def OwnS (w : World) (base : Nat) (v : Value) (ws : List ByteArray) : Prop := w.ownsRow base 9 1 v ws.length (ws.map Value.string)
theorem OwnS.below {w w' : World} {base : Nat} {v : Value} {ws : List ByteArray} (h : OwnS w base v ws) (hb : Below w.heap.size w w') : OwnS w' base v ws := by
  obtain ⟨h0, ⟨h1, h2⟩ | ⟨g, cap, cur, h1, h2, h3, h4⟩⟩ := h
  · exact ⟨h0, .inl ⟨h1, h2⟩⟩
  · have hg : g < w.heap.size := by obtain ⟨hl, _⟩ := Array.getElem?_eq_some_iff.1 h3; exact hl
    exact ⟨h0, .inr ⟨g, cap, cur, h1, h2, (hb.block g hg).trans h3, h4⟩⟩
theorem infoStr : (Tryd.prog.info? 9).map (fun i => (i.zero, i.size, i.bytes)) = some (some (.string { data := #[] }), 1, 16) := by kernel_rfl
theorem join_own (w : World) (base : Nat) (v : Value) (ws : List ByteArray) (h : OwnS w base v ws) (hl : ws.length ≤ 140737488355328)
    (hj : (Lib.join (ws.map (·.data.toList)) [32]).length ≤ 140737488355328) :
    Calls Tryd.prog 18 #[v, .string { data := #[32] }] w fun e w' => e = .returned (.string ⟨(Lib.join (ws.map (·.data.toList)) [32]).toArray⟩) ∧ Below w.heap.size w w' := by
  have h' := h
  obtain ⟨h0, ⟨h1, h2⟩ | ⟨g, cap, cur, h1, h2, h3, h4, h5⟩⟩ := h
  · subst h1
    have : ws = [] := List.length_eq_zero_iff.1 h2
    subst this
    exact (Any.strings_Join_none Tryd.laysJoin Tryd.Builder_Extra_156 none 0 { data := #[32] } w).mono fun e w' ⟨e1, e2⟩ => ⟨e1, e2 ▸ Below.refl _ _⟩
  · subst h1
    have hg : g < w.heap.size := by obtain ⟨hl, _⟩ := Array.getElem?_eq_some_iff.1 h3; exact hl
    refine Any.strings_Join Tryd.laysJoin Tryd.Builder_Extra_156 g 0 cap ws { data := #[32] } w (fun j x hx => ?_) hg hl h4 hj
    have hjl : j < ws.length := (List.getElem?_eq_some_iff.1 hx).1
    rw [Nat.zero_add, World.ownsRow.cellAt h' j (by omega), List.getElem?_map, hx]
    rfl
theorem allR_take {es : List Ev} {k : Nat} (h : k < es.length) : allR (es.take (k + 1)) = (allR (es.take k) && rightE (evAt es k)) := by
  rw [ev_take h]; simp [allR]
theorem evAt_mem {es : List Ev} {k : Nat} (h : k < es.length) : evAt es k ∈ es := by
  simp [evAt, List.getElem?_eq_getElem h]
/-- Events that came in. -/
theorem IsStructs.rdEf {w : World} {a : Option Addr} {len cap : Nat} {Z : Nat → Nat → Int} (h : IsStructs [.i64, .i64, .i64, .i64, .i64] w a len cap Z) :
    ∃ es : List Ev, es.length = len ∧ (∀ e ∈ es, fitE e) ∧ ∀ w', Below w.heap.size w w' → RdE w' (.slice a len cap) es := by
  obtain ⟨es, h1, h2⟩ := h.rdE
  refine ⟨es, h1, fun e he => ?_, h2⟩
  obtain ⟨i, hi, rfl⟩ := List.mem_iff_getElem.1 he
  obtain ⟨bx, off, rfl, hc⟩ := h.open (by omega) (by simp)
  obtain ⟨a', c', e', _, hh⟩ := h2 w (Below.refl _ _)
  simp only [Value.slice.injEq] at e'
  obtain ⟨rfl, e2, rfl⟩ := e'
  obtain ⟨q, o, e3, _, hq⟩ := hh (by omega)
  simp only [Option.some.injEq, Addr.mk.injEq, and_true] at e3
  obtain ⟨rfl, rfl⟩ := e3
  have c1 := (hq i hi).2.2.2.2
  have c2 := hc w (Below.refl _ _) i (by omega) 4 .i64 rfl
  have e4 : off + (i * [IntKind.i64, .i64, .i64, .i64, .i64].length + 4) = off + i * 5 + 4 := by simp; omega
  rw [e4, c1] at c2
  have e5 : evAt es i = es[i] := by simp [evAt, List.getElem?_eq_getElem hi]
  rw [e5] at c2
  obtain ⟨c2, c3⟩ := c2
  simp only [Option.some.injEq, Value.int.injEq, true_and] at c2
  rw [← c2] at c3
  exact bounds_i64 c3
set_option maxHeartbeats 4000000 in
theorem print_any (v : Value) (es : List Ev) (w : World) (R : GlRunes w) (T : PwTab w) (hr : RdE w v es) (hf : ∀ e ∈ es, fitE e) (hl : es.length ≤ 1000) :
    Calls Tryd.prog 7 #[v] w fun e w' => e = .returned (.tuple #[.string (if allR es then textE es else { data := #[] }), .int .i64 (if allR es then 0 else 1)]) ∧ Below w.heap.size w w' := by
  have RD := hid hr
  have HR := hid R
  have HT := hid T
  have HF := hid hf
  obtain ⟨a, c, rfl, _, _⟩ := hr
  obtain ⟨n, hn⟩ : ∃ n, n = es.length := ⟨_, rfl⟩
  have HN := hid hn
  rw [← hn] at hl ⊢
  obtain ⟨ts, hts⟩ : ∃ ts, ts = if allR es then textE es else { data := #[] } := ⟨_, rfl⟩
  obtain ⟨tn, htn⟩ : ∃ tn : Int, tn = if allR es then 0 else 1 := ⟨_, rfl⟩
  rw [← hts, ← htn]
  have HTS : Hid ((allR es = true → ts = textE es ∧ tn = 0) ∧ (allR es = false → ts = { data := #[] } ∧ tn = 1)) := hid ⟨fun h => by rw [hts, htn, h]; exact ⟨rfl, rfl⟩, fun h => by rw [hts, htn, h]; exact ⟨rfl, rfl⟩⟩
  clear hn R T hf hts htn
  have I0 := hid infoStr
  go_enter Tryd.func7, Tryd.ntmps7
  go_wp2_with fail
  go_loopw [4, 11] (fun x i wr => ∃ (k : Nat), k ≤ n ∧ i = .int .i64 k ∧ Hid (allR (es.take k) = true) ∧ Hid (OwnS wr w.heap.size x ((es.take k).map wordE)) ∧ Hid (Below w.heap.size w wr))
    (fun _ i _ => n - (intOf i).toNat)
  case atStart => exact ⟨0, by omega, rfl, hid (by simp [allR]), hid (show OwnS _ _ _ _ from World.ownsRow_nil w w.heap.size 9 1), hid (Below.refl _ _)⟩
  case round =>
    obtain ⟨k, hk, rfl, AR, OW, B⟩ := hrel
    by_cases hlt : k < n
    · obtain ⟨a', c', e, _, hh⟩ := RD.out.below B.out
      simp only [Value.slice.injEq] at e
      obtain ⟨rfl, _, rfl⟩ := e
      obtain ⟨q, off, rfl, _, hc⟩ := hh (by have := HN.out; omega)
      obtain ⟨h0, h1, h2, h3, h4⟩ := hc k (by have := HN.out; omega)
      have TK := hid (ev_take (es := es) (k := k) (by have := HN.out; omega))
      have AT := hid (allR_take (es := es) (k := k) (by have := HN.out; omega))
      have EM := hid (evAt_mem (es := es) (k := k) (by have := HN.out; omega))
      generalize evAt es k = ev at *
      obtain ⟨kd, gg, mm, pp, vv⟩ := ev
      simp only at h0 h1 h2 h3 h4
      have hbs := B.out.size
      have B2 := hid (B.out.alloc B.out.size (.cells #[.int .i64 kd, .int .i64 gg, .int .i64 mm, .int .i64 pp, .int .i64 vv] 29))
      have hsz : (wr.alloc (.cells #[.int .i64 kd, .int .i64 gg, .int .i64 mm, .int .i64 pp, .int .i64 vv] 29)).heap.size = wr.heap.size + 1 := by simp
      have OW2 := hid (show OwnS (wr.alloc (.cells #[.int .i64 kd, .int .i64 gg, .int .i64 mm, .int .i64 pp, .int .i64 vv] 29)) w.heap.size _ _ from World.ownsRow.alloc OW.out _)
      have hbx := heap_alloc_new wr (.cells #[.int .i64 kd, .int .i64 gg, .int .i64 mm, .int .i64 pp, .int .i64 vv] 29)
      by_cases hrt : rightE (kd, gg, mm, pp, vv) = true
      · obtain ⟨kk, hkk, hk8, hw⟩ := right_k hrt
        simp only at hkk hw
        subst hkk
        have WA := hid (word_any kk gg mm pp vv hrt (HF.out _ EM.out) _ (HR.out.at B2.out) (HT.out.at B2.out))
        rw [← hw] at WA
        have AR2 := hid (show allR (es.take (k + 1)) = true by rw [AT.out, AR.out, hrt]; rfl)
        have TW := hid (show (es.take (k + 1)).map wordE = (es.take k).map wordE ++ [wordE (↑kk, gg, mm, pp, vv)] by rw [TK.out, List.map_append]; rfl)
        have hln : ((es.take k).map wordE).length ≤ k := by rw [List.length_map]; exact List.length_take_le _ _
        generalize (es.take k).map wordE = ws at *
        generalize wordE (↑kk, gg, mm, pp, vv) = wd at *
        clear hh hc OW B AT AR hw hrt
        go_wp2_with fail
        refine WA.out.mono ?_
        rintro e w3 ⟨rfl, hb3⟩
        have B3 := hid (B2.out.trans (hb3.mono B2.out.size))
        have OW3 := hid (OW2.out.below hb3)
        have hs3 := hb3.size
        clear WA B2 OW2 hb3
        obtain ⟨i0, hi, hz0, hz1, hz2⟩ := info_parts I0.out
        have hO4 := World.ownsRow.alloc OW3.out (.cells #[.string wd] 9)
        have OWL := hid (World.ownsRow.lt OW3.out)
        have hb4 := B3.out.alloc B3.out.size (.cells #[.string wd] 9)
        go_wp2_with (at_builtin; refine wpList_append_own_at _ rfl _ _ 48 rfl w.heap.size 9 i0 (.string { data := #[] }) 1 16 Tryd.underlying48 hi hz0 hz1 hz2 rfl (by decide) _ _ _ rfl hO4 ⟨w3.heap.size, 0, none⟩ 1 1 [.string wd] rfl rfl ?c1 ?c2 ?c3 ?c4 ?c5 ?_)
        case c1 =>
          intro j u hj
          rcases j with _ | j
          · simp only [List.getElem?_cons_zero, Option.some.injEq] at hj
            subst hj
            rw [show ((⟨w3.heap.size, 0, none⟩ : Addr).add 0) = ⟨w3.heap.size, 0, none⟩ from rfl]
            have hnw := heap_alloc_new w3 (.cells #[.string wd] 9)
            simp only [World.cell?, hnw]
            rfl
          · simp at hj
        case c2 =>
          intro u hu
          simp only [List.mem_singleton] at hu
          subst hu
          rfl
        case c3 => unfold maxLen; omega
        case c4 => omega
        case c5 => simp; omega
        intro v' w6 hown6 hgrow _ _
        have O6 := hid (show OwnS w6 w.heap.size v' ((es.take (k + 1)).map wordE) by
          rw [TW.out]
          unfold OwnS
          rw [List.length_append, List.map_append]
          exact hown6)
        have B6 := hid (hb4.grown hgrow (by have := B3.out.size; simp; omega) (fun q hq => (OWL.out q hq).1))
        clear hown6 hgrow hO4 OWL hi hz0 hz1 hz2 B3 OW3 hb4
        go_wp2
        go_roundw
        case rel => exact ⟨k + 1, by omega, by go_num, AR2, O6, B6⟩
        case measure => simp [intOf]; omega
      · have hrf : rightE (kd, gg, mm, pp, vv) = false := by simpa using hrt
        have WB := hid (word_bad kd gg mm pp vv hrf _ (HR.out.at B2.out))
        have AF : allR es = false := by
          rw [allR, List.all_eq_false]
          exact ⟨_, EM.out, by rw [hrf]; simp⟩
        obtain ⟨e1, e2⟩ := HTS.out.2 AF
        subst e1 e2
        clear hh hc OW B AT AR hrt hrf AF OW2 TK
        go_wp2_with fail
        refine WB.out.mono ?_
        rintro e w3 ⟨rfl, hb3⟩
        have B3 := hid (B2.out.trans (hb3.mono B2.out.size))
        clear WB B2 hb3
        go_wp2
        exact bodyPost_ret (v := .tuple #[.string { data := #[] }, .int .i64 1]) (by simp [results, Tryd.results7, go_sem]) rfl ⟨rfl, B3.out⟩
    · obtain rfl : k = n := by omega
      rw [List.take_of_length_le (by have := HN.out; omega)] at OW AR
      have JO := hid (join_own wr w.heap.size _ _ OW.out (by rw [List.length_map]; have := HN.out; omega) (by have := join_len (wordsL_90 AR.out HF.out); rw [wordsL_len] at this; have h2 := HN.out; exact Nat.le_trans this (by omega)))
      obtain ⟨e1, e2⟩ := HTS.out.1 AR.out
      subst e1 e2
      clear OW
      go_wp2_with fail
      refine JO.out.mono ?_
      rintro e w3 ⟨rfl, hb3⟩
      have B3 := hid (B.out.trans (hb3.mono B.out.size))
      clear hb3 B JO
      go_wp2
      exact bodyPost_ret (v := .tuple #[.string (textE es), .int .i64 0]) (by simp [results, Tryd.results7, go_sem, textE, wordsL]) rfl ⟨rfl, B3.out⟩
theorem right_wl {e : Ev} (h : rightE e = true) : Gw.Wo ((wordE e).data.toList) := by
  obtain ⟨⟨h0, h8⟩, _⟩ := right_all h
  rw [word_list h]
  exact ⟨Gw.wl_ne (by omega), Gw.wl_nb (by omega)⟩
theorem wordsL_wo {es : List Ev} (hr : allR es = true) : ∀ x ∈ wordsL es, Gw.Wo x := by
  intro x hx
  simp only [wordsL, List.map_map, List.mem_map, Function.comp] at hx
  obtain ⟨e, he, rfl⟩ := hx
  exact right_wl (List.all_eq_true.1 hr e he)
theorem word_inj {e f : Ev} (he : rightE e = true) (hf : rightE f = true) (h : (wordE e).data.toList = (wordE f).data.toList) : e = f := by
  rw [word_list he, word_list hf] at h
  obtain ⟨⟨a0, a8⟩, ag, am, ap⟩ := right_all he
  obtain ⟨⟨b0, b8⟩, bg, bm, bp⟩ := right_all hf
  obtain ⟨h1, h2, h3, h4, h5⟩ := Gw.wl_inj (by omega) (by omega) ag.1 bg.1 am.1 bm.1 ap.1 bp.1 h
  obtain ⟨e1, e2, e3, e4, e5⟩ := e
  obtain ⟨f1, f2, f3, f4, f5⟩ := f
  simp only at *
  have : e1 = f1 := by omega
  subst this h2 h3 h4 h5
  rfl
theorem wordsL_inj : ∀ {es fs : List Ev}, allR es = true → allR fs = true → wordsL es = wordsL fs → es = fs
  | [], [], _, _, _ => rfl
  | [], f :: fs, _, _, h => by simp [wordsL] at h
  | e :: es, [], _, _, h => by simp [wordsL] at h
  | e :: es, f :: fs, h1, h2, h => by
    simp only [allR, List.all_cons, Bool.and_eq_true] at h1 h2
    simp only [wordsL, List.map_cons, List.cons.injEq] at h
    rw [word_inj h1.1 h2.1 h.1, wordsL_inj h1.2 h2.2 h.2]
theorem text_eqb {es fs : List Ev} (h1 : allR es = true) (h2 : allR fs = true) : ((textE es).toList == (textE fs).toList) = decide (es = fs) := by
  by_cases h : es = fs
  · subst h; simp
  · rw [decide_eq_false h]
    refine txt_ne fun e => h (wordsL_inj h1 h2 (Gw.join_inj (wordsL_wo h1) (wordsL_wo h2) ?_))
    simpa [textE] using congrArg (fun b : ByteArray => b.data.toList) e
theorem text_nil {es : List Ev} (h1 : allR es = true) : ((textE es).toList == (({ data := #[] } : ByteArray)).toList) = decide (es = []) := by
  have := text_eqb h1 (fs := []) rfl
  simpa [textE, wordsL, Lib.join_nil] using this
theorem text_size' {es : List Ev} (h1 : allR es = true) (hf : ∀ e ∈ es, fitE e) : (textE es).size ≤ es.length * 100 := by
  have := join_len (wordsL_90 h1 hf)
  rw [wordsL_len] at this
  simpa [textE, ByteArray.size] using this
theorem text_two {es fs : List Ev} (h1 : es ≠ []) (h2 : fs ≠ []) : textE (es ++ fs) = (textE es ++ { data := #[32] }) ++ textE fs := by
  have := Gw.join_two (r := wordsL es) (s := wordsL fs) (by simpa [wordsL] using h1) (by simpa [wordsL] using h2)
  have e : wordsL (es ++ fs) = wordsL es ++ wordsL fs := by simp [wordsL]
  apply ByteArray.ext
  simp [textE, e, this, ByteArray.data_append]
theorem allR_app (es fs : List Ev) : allR (es ++ fs) = (allR es && allR fs) := by simp [allR]
end Go.Proofs.YtnaphgjkkagpoaaDoor
