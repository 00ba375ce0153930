/- hostlerref16.Parse of any text. -/
import Derived.Test.YtnaphgjkkagpoaaDoorGlyOf
import Derived.BigQuiet
import Derived.Deep.CutRange
namespace Go.Proofs.YtnaphgjkkagpoaaDoor
set_option linter.unusedVariables false
set_option linter.unusedSimpArgs false
set_option maxRecDepth 20000
open Go.RowKit

theorem IsCnt.unique {s : ByteArray} {a b : Nat} (h1 : IsCnt s a) (h2 : IsCnt s b) : a = b := by
  rcases Nat.lt_trichotomy a b with h | h | h
  · exact absurd (h2.1 a h) h1.2
  · exact h
  · exact absurd (h1.1 b h) h2.2
theorem AtIs.unique : ∀ {r : List ByteArray} {a b : Nat}, AtIs r a → AtIs r b → a = b
  | [], a, b, h1, h2 => by
    have h1 : a = 0 := h1
    have h2 : b = 0 := h2
    omega
  | x :: r, a, b, ⟨c, m, h1, h2, h3⟩, ⟨c', m', h4, h5, h6⟩ => by
    have := h1.unique h4
    have := h2.unique h5
    omega
theorem bytes_map_inj {a b : List ByteArray} (h : a.map (·.data.toList) = b.map (·.data.toList)) : a = b :=
  (List.map_inj_right (fun a b e => ByteArray.ext (Array.toList_inj.1 e))).1 h
theorem parsed_no {s word : ByteArray} {es : List Ev} {t : List (List UInt8)} {q : Nat} (h : spl s.data.toList = wordsL es ++ word.data.toList :: t) (hr : allR es = true) (hf : ∀ e ∈ es, fitE e) (hn : ∀ x, ¬ IsW word x) (ha : AtIs (es.map wordE) q) : Parsed s es false q := by
  rw [← wordsB_spl] at h
  have hl := congrArg List.length h
  simp only [List.length_map, List.length_append, wordsL_len, List.length_cons] at hl
  refine ⟨?_, hr, hf, fun h => (by cases h), fun _ => ⟨by omega, fun x hx => hn x ?_, ha⟩⟩
  · apply bytes_map_inj
    rw [List.map_take, h, List.take_left' (wordsL_len es)]
    rfl
  · have e : ((wordsB s).map (·.data.toList))[es.length]? = some word.data.toList := by
      rw [h, List.getElem?_append_right (by rw [wordsL_len]; exact Nat.le_refl _), wordsL_len, Nat.sub_self]
      rfl
    rw [List.getElem?_map, List.getElem?_eq_getElem (show es.length < (wordsB s).length by omega)] at e
    have e2 : (wordsB s)[es.length].data.toList = word.data.toList := by simpa using e
    have e3 : (wordsB s)[es.length] = word := ByteArray.ext (Array.toList_inj.1 e2)
    rw [e3] at hx
    exact hx
theorem parsed_yes {s : ByteArray} {es : List Ev} (h : spl s.data.toList = wordsL es) (hr : allR es = true) (hf : ∀ e ∈ es, fitE e) : Parsed s es true 0 := by
  rw [← wordsB_spl] at h
  have hl := congrArg List.length h
  simp only [List.length_map, wordsL_len] at hl
  refine ⟨?_, hr, hf, fun _ => ⟨hl.symm, rfl⟩, fun h => (by cases h)⟩
  apply bytes_map_inj
  rw [List.map_take, h, List.take_of_length_le (by rw [wordsL_len]; exact Nat.le_refl _)]
  rfl
/-- How far the document has read: the words done, the one under way. -/
def Mid (s word : ByteArray) (es : List Ev) (i : Nat) : Prop :=
  ∃ h t, spl (s.data.toList.drop i) = h :: t ∧ spl s.data.toList = wordsL es ++ (word.data.toList ++ h) :: t
theorem drop_at {s : ByteArray} {i : Nat} (h : i < s.size) : s.data.toList.drop i = s[i] :: s.data.toList.drop (i + 1) := by
  have h' : i < s.data.toList.length := by rw [← Lib.size_eq]; exact h
  have e : s.data.toList[i]'h' = s[i] := by rw [Array.getElem_toList]; rfl
  rw [← e]
  exact List.drop_eq_getElem_cons h'
theorem Mid.byte {s word : ByteArray} {es : List Ev} {i : Nat} (hi : i < s.size) (h : Mid s word es i) (hb : s[i] ≠ 32) : Mid s (word ++ s.extract i (i + 1)) es (i + 1) := by
  obtain ⟨h', t', e'⟩ := spl_ne (s.data.toList.drop (i + 1))
  obtain ⟨a, t, e1, e2⟩ := h
  rw [drop_at hi, spl_other hb e'] at e1
  simp only [List.cons.injEq] at e1
  obtain ⟨rfl, rfl⟩ := e1
  refine ⟨h', t', e', ?_⟩
  rw [e2]
  have e3 : (s.extract i (i + 1)).data.toList = [s[i]] := by
    have h := Lib.extract_toList s i (i + 1)
    rw [ByteArray.toList_eq] at h
    rw [h, drop_at hi, show i + 1 - i = 1 by omega]
    rfl
  rw [ByteArray.data_append, Array.toList_append, e3]
  simp
theorem Mid.blank {s word : ByteArray} {es : List Ev} {i : Nat} (hi : i < s.size) (h : Mid s word es i) (hb : s[i] = 32) :
    ∃ h t, spl (s.data.toList.drop (i + 1)) = h :: t ∧ spl s.data.toList = wordsL es ++ word.data.toList :: h :: t := by
  obtain ⟨h', t', e'⟩ := spl_ne (s.data.toList.drop (i + 1))
  obtain ⟨a, t, e1, e2⟩ := h
  rw [drop_at hi, hb, spl_blank, e'] at e1
  simp only [List.cons.injEq] at e1
  obtain ⟨rfl, rfl⟩ := e1
  exact ⟨h', t', e', by rw [e2, List.append_nil]⟩
theorem Mid.end {s word : ByteArray} {es : List Ev} (h : Mid s word es s.size) : spl s.data.toList = wordsL es ++ word.data.toList :: [] := by
  obtain ⟨a, t, e1, e2⟩ := h
  rw [List.drop_eq_nil_of_le (by rw [← Lib.size_eq]; exact Nat.le_refl _)] at e1
  simp only [spl, List.cons.injEq] at e1
  obtain ⟨rfl, rfl⟩ := e1
  rw [e2, List.append_nil]
theorem Mid.next {s word : ByteArray} {es : List Ev} {i : Nat} {x : Ev} (h : ∃ h t, spl (s.data.toList.drop (i + 1)) = h :: t ∧ spl s.data.toList = wordsL es ++ word.data.toList :: h :: t) (hx : IsW word x) : Mid s { data := #[] } (es ++ [x]) (i + 1) := by
  obtain ⟨a, t, e1, e2⟩ := h
  refine ⟨a, t, e1, ?_⟩
  rw [e2]
  simp [wordsL, hx.2.2]
/-- Between two bytes. -/
def Rel (s word : ByteArray) (es : List Ev) (i q : Nat) : Prop :=
  (i ≤ s.size → Mid s word es i) ∧ (i = s.size + 1 → spl s.data.toList = wordsL es) ∧ allR es = true ∧ (∀ e ∈ es, fitE e) ∧ AtIs (es.map wordE) q ∧ q + word.size ≤ i ∧ es.length ≤ i
theorem Rel.start (s : ByteArray) : Rel s { data := #[] } [] 0 0 := by
  obtain ⟨h, t, e⟩ := spl_ne s.data.toList
  exact ⟨fun _ => ⟨h, t, by rw [List.drop_zero]; exact e, by rw [e]; rfl⟩, fun h => by omega, rfl, by simp, rfl, Nat.le_refl _, Nat.le_refl _⟩
theorem Rel.byte {s word : ByteArray} {es : List Ev} {i q : Nat} (h : Rel s word es i q) (hi : i < s.size) (hb : s[i] ≠ 32) : Rel s (word ++ s.extract i (i + 1)) es (i + 1) q := by
  obtain ⟨h1, _, h3, h4, h5, h6, h7⟩ := h
  refine ⟨fun _ => (h1 (by omega)).byte hi hb, fun h => by omega, h3, h4, h5, ?_, by omega⟩
  have : (word ++ s.extract i (i + 1)).size = word.size + 1 := by simp [ByteArray.size_append, ByteArray.size_extract]; omega
  omega
theorem Rel.no {s word : ByteArray} {es : List Ev} {i q : Nat} (h : Rel s word es i q) (hi : i ≤ s.size) (hb : ∀ h : i < s.size, s[i] = 32) (hn : ∀ x, ¬ IsW word x) : Parsed s es false q := by
  obtain ⟨h1, _, h3, h4, h5, h6, h7⟩ := h
  rcases (show i < s.size ∨ i = s.size by omega) with h | h
  · obtain ⟨a, t, _, e⟩ := (h1 hi).blank h (hb h)
    exact parsed_no e h3 h4 hn h5
  · subst h
    exact parsed_no (h1 hi).end h3 h4 hn h5
theorem Rel.yes {s word : ByteArray} {es : List Ev} {i q N : Nat} {x : Ev} (h : Rel s word es i q) (hi : i ≤ s.size) (hb : ∀ h : i < s.size, s[i] = 32) (hx : IsW word x) (hN : IsCnt word N) : Rel s { data := #[] } (es ++ [x]) (i + 1) (q + N + 1) := by
  obtain ⟨h1, _, h3, h4, h5, h6, h7⟩ := h
  have hle := hN.le
  refine ⟨fun h8 => ?_, fun h8 => ?_, ?_, ?_, ?_, ?_, ?_⟩
  · exact Mid.next ((h1 hi).blank (by omega) (hb (by omega))) hx
  · have : i = s.size := by omega
    subst this
    rw [(h1 hi).end]
    simp [wordsL, hx.2.2]
  · rw [allR_app, h3]; simp [allR, hx.1]
  · intro e he
    rcases List.mem_append.1 he with he | he
    · exact h4 e he
    · simp at he; subst he; exact hx.2.1
  · rw [List.map_append]
    have := h5.snoc hN
    simpa [hx.2.2] using this
  · show q + N + 1 + 0 ≤ i + 1
    omega
  · simp; omega
theorem Rel.done {s word : ByteArray} {es : List Ev} {q : Nat} (h : Rel s word es (s.size + 1) q) : Parsed s es true 0 := by
  obtain ⟨_, h2, h3, h4, _⟩ := h
  exact parsed_yes (h2 rfl) h3 h4
/-- What Parse answers. -/
def RqP (s : ByteArray) (w : World) (e : Ending) (w' : World) : Prop :=
  ∃ (v : Value) (es : List Ev) (ok : Bool) (at' : Nat), e = .returned (.tuple #[v, .int .i64 (if ok then -1 else at')]) ∧ Parsed s es ok at' ∧ RdE w' v es ∧ Below w.heap.size w w'
theorem RqP.yes {s : ByteArray} {w w' : World} {v : Value} {es : List Ev} (h : Parsed s es true 0) (hr : RdE w' v es) (hb : Below w.heap.size w w') : RqP s w (.returned (.tuple #[v, .int .i64 (-1)])) w' := ⟨v, es, true, 0, rfl, h, hr, hb⟩
theorem RqP.no {s : ByteArray} {w w' : World} {v : Value} {es : List Ev} {q : Nat} (h : Parsed s es false q) (hr : RdE w' v es) (hb : Below w.heap.size w w') : RqP s w (.returned (.tuple #[v, .int .i64 q])) w' := ⟨v, es, false, q, rfl, h, hr, hb⟩
set_option maxHeartbeats 8000000 in
theorem rparse_any (s : ByteArray) (hl : s.size ≤ 100000) (hne : s.size ≠ 0) (w : World) :
    Calls Tryd.prog 17 #[.string s] w (RqP s w) := by
  have hse : s.toList.isEmpty = false := by
    rw [ByteArray.toList_eq]
    have : s.data.toList ≠ [] := fun h => hne (by rw [Lib.size_eq, h]; rfl)
    simpa using this
  obtain ⟨i0, hi, hz0, hz1, hz2⟩ := info_parts infoRe
  have HI := hid (And.intro hi (And.intro hz0 (And.intro hz1 hz2)))
  clear hi hz0 hz1 hz2 hne
  go_enter Tryd.func17, Tryd.ntmps17
  go_wp2_with fail
  go_loopw [4, 5, 6, 7] (fun v4 x wo i wr => ∃ (k q : Nat) (es : List Ev) (word : ByteArray), k ≤ s.size + 1 ∧ q ≤ k ∧ word.size ≤ k ∧ es.length ≤ k ∧ x = .int .i64 q ∧ wo = .string word ∧ i = .int .i64 k ∧ Hid (Rel s word es k q) ∧ Hid (wr.ownsRow w.heap.size 34 5 v4 es.length (fe es)) ∧ Hid (Below w.heap.size w wr)) (fun _ _ _ i _ => s.size + 1 - (intOf i).toNat)
  case atStart => exact ⟨0, 0, [], { data := #[] }, by omega, by omega, by show 0 ≤ 0; omega, by simp, rfl, rfl, rfl, hid (Rel.start s), hid (World.ownsRow_nil w _ _ _), hid (Below.refl _ _)⟩
  case round =>
    obtain ⟨k, q, es, word, hk, hq, hwz, hel, rfl, rfl, rfl, RL, OW, B⟩ := hrel
    rcases (show (∃ h : k < s.size, s[k] ≠ 32) ∨ (k ≤ s.size ∧ ∀ h : k < s.size, s[k] = 32) ∨ k = s.size + 1 by
      rcases (show k < s.size ∨ k = s.size ∨ k = s.size + 1 by omega) with h | h | h
      · by_cases hb : s[k] = 32
        · exact .inr (.inl ⟨by omega, fun _ => hb⟩)
        · exact .inl ⟨h, hb⟩
      · exact .inr (.inl ⟨by omega, fun h' => by omega⟩)
      · exact .inr (.inr h)) with ⟨hks, hb⟩ | ⟨hks, hb⟩ | hks
    · have RB := hid (RL.out.byte hks hb)
      have b0 : s[k].toNat ≠ 32 := fun e => hb (UInt8.toNat_inj.1 e)
      have b1 : ((s[k].toNat : Int) == 32) = false := by
        have : (s[k].toNat : Int) ≠ 32 := by omega
        simpa using this
      have sl : ∀ w, (Instr.slice 9 (.string s) (some (.int .i64 (k : Int))) (some (.int .i64 ((k : Int) + 1))) none).run Tryd.prog w = .ok (.string (s.extract k (k + 1))) w := fun w => by
        have := run_slice_string (P := Tryd.prog) w 9 s .i64 .i64 (k : Int) ((k : Int) + 1) Tryd.underlying9 (by omega) (by omega) (by omega)
        have e : ((k : Int) + 1).toNat = k + 1 := by omega
        simpa [e] using this
      clear b0
      have k1 : (k : Int) ≤ (s.size : Int) := by omega
      have k2 : (k : Int) < (s.size : Int) := by omega
      have k3 : (k : Int) + 1 ≤ (s.size : Int) := by omega
      have k4 : (0 : Int) ≤ (k : Int) := by omega
      have ad := fun w => run_string_add_sum (P := Tryd.prog) w word (s.extract k (k + 1)) (by simp [ByteArray.size_extract]; omega)
      have hwz2 : (word ++ s.extract k (k + 1)).size ≤ k + 1 := by simp [ByteArray.size_append, ByteArray.size_extract]; omega
      clear hb RL
      go_wp2
      go_roundw
      case rel => exact ⟨k + 1, q, es, word ++ s.extract k (k + 1), by omega, by omega, hwz2, by omega, rfl, rfl, by go_num, RB, OW, B⟩
      case measure => simp [intOf]; omega
    · obtain ⟨N, hcn⟩ := cnt_ex word
      have CN := hid hcn
      have hNw := hcn.le
      have YE := hid (fun x hx => RL.out.yes (x := x) (N := N) hks hb hx CN.out)
      have NO := hid (fun hn => RL.out.no hks hb hn)
      have ON := hid (fun w => one_any word (by omega) w)
      have CA := hid (fun w => rcount_any word N CN.out (by omega) w)
      rcases (show (∃ h : k < s.size, (k : Int) < s.size ∧ ((s[k].toNat : Int) == 32) = true) ∨ ¬ (k : Int) < (s.size : Int) by
        by_cases h : k < s.size
        · exact .inl ⟨h, by omega, by rw [hb h]; rfl⟩
        · exact .inr (by omega)) with ⟨h8, e1, e2⟩ | e1
      all_goals
        have k1 : (k : Int) ≤ (s.size : Int) := by omega
        clear hb RL hcn
        go_wp2_with fail
        refine (ON.out _).mono ?_
        rintro e w2 ⟨h | h, hb⟩
        · obtain ⟨⟨kd, gg, mm, pp, vv⟩, hx, rfl⟩ := h
          have YX := hid (YE.out _ hx)
          have B2 := hid (B.out.trans (hb.mono B.out.size))
          have OW2 := hid (own_belowE OW.out hb)
          have hs2 := B2.out.size
          have fl : (fe (es ++ [(kd, gg, mm, pp, vv)])) = fe es ++ fe [(kd, gg, mm, pp, vv)] := fe_app _ _
          have FL := hid fl
          simp only
          clear hx OW B ON hb YE NO fl
          go_upto_region 12 with (fail)
          have hbx := heap_alloc_new w2 (.cells #[.int .i64 kd, .int .i64 gg, .int .i64 mm, .int .i64 pp, .int .i64 vv] 34)
          have B3 := hid (B2.out.alloc B2.out.size (.cells #[.int .i64 kd, .int .i64 gg, .int .i64 mm, .int .i64 pp, .int .i64 vv] 34))
          have OW3 := hid (World.ownsRow.alloc OW2.out (.cells #[.int .i64 kd, .int .i64 gg, .int .i64 mm, .int .i64 pp, .int .i64 vv] 34))
          generalize w2.alloc (.cells #[.int .i64 kd, .int .i64 gg, .int .i64 mm, .int .i64 pp, .int .i64 vv] 34) = w3 at *
          obtain ⟨c0, c1, c2, c3, c4⟩ := ev5c hbx
          have OWL := hid (World.ownsRow.lt OW3.out)
          have hO4 := hid (World.ownsRow.alloc OW3.out (.cells #[.int .i64 kd, .int .i64 gg, .int .i64 mm, .int .i64 pp, .int .i64 vv] 34))
          have NW := hid (news_ev w3 (kd, gg, mm, pp, vv) 34)
          have B4 := hid (B3.out.alloc B3.out.size (.cells #[.int .i64 kd, .int .i64 gg, .int .i64 mm, .int .i64 pp, .int .i64 vv] 34))
          clear OW2 hbx OW3 B2
          obtain ⟨j, hj⟩ : ∃ j, j = es.length := ⟨_, rfl⟩
          have HJ := hid hj
          rw [← hj] at hO4 hel
          clear hj
          go_wp2_with (at_builtin; refine wpList_append_own _ rfl _ _ 41 rfl w.heap.size 34 i0 _ 5 40 Tryd.underlying41 HI.out.1 HI.out.2.1 HI.out.2.2.1 HI.out.2.2.2 rfl (by decide) _ _ _ rfl hO4.out ⟨w3.heap.size, 0, none⟩ 1 1 (fe [(kd, gg, mm, pp, vv)]) rfl rfl NW.out (fe_ones _) (by unfold maxLen; omega) (by omega) (by have := B4.out.size; omega) ?_)
          intro v' w6 hown6 hgrow _
          have O6 := hid (show w6.ownsRow w.heap.size 34 5 v' (es ++ [(kd, gg, mm, pp, vv)]).length (fe (es ++ [(kd, gg, mm, pp, vv)])) by rw [FL.out, List.length_append, ← HJ.out]; exact hown6)
          have B6 := hid (B4.out.grown hgrow B4.out.size (fun q hq => (OWL.out q hq).1))
          have HL := hid (show (es ++ [(kd, gg, mm, pp, vv)]).length ≤ k + 1 by rw [List.length_append, ← HJ.out]; show j + 1 ≤ k + 1; omega)
          clear hown6 hgrow hO4 OWL B3 B4 NW c0 c1 c2 c3 c4 FL
          generalize es ++ [(kd, gg, mm, pp, vv)] = es' at *
          go_wp2_with fail
          refine (CA.out _).mono ?_
          rintro e w7 ⟨rfl, hb7⟩
          have B7 := hid (B6.out.trans (hb7.mono B6.out.size))
          have O7 := hid (own_belowE O6.out hb7)
          clear hb7 B6 O6 CA
          go_wp2
          go_roundw
          case rel =>
            refine ⟨k + 1, q + N + 1, es', { data := #[] }, by omega, ?_, by show 0 ≤ k + 1; omega, HL.out, by go_num, rfl, by go_num, YX, O7, B7⟩
            have := YX.out.2.2.2.2.2.1
            have h0 : ({ data := #[] } : ByteArray).size = 0 := rfl
            omega
          case measure => simp [intOf]; omega
        · obtain ⟨hno, ⟨y0, y1, y2, y3, y4⟩, rfl⟩ := h
          have PN := hid (NO.out hno)
          have OW2 := hid (own_belowE OW.out hb)
          have B2 := hid (B.out.trans (hb.mono B.out.size))
          have hs2 := hb.size
          simp only
          clear hno OW B ON hb YE NO
          go_upto_region 12 with (fail)
          have B3 := hid (B2.out.alloc B2.out.size (.cells #[.int .i64 y0, .int .i64 y1, .int .i64 y2, .int .i64 y3, .int .i64 y4] 34))
          have OW3 := hid (World.ownsRow.alloc OW2.out (.cells #[.int .i64 y0, .int .i64 y1, .int .i64 y2, .int .i64 y3, .int .i64 y4] 34))
          generalize w2.alloc (.cells #[.int .i64 y0, .int .i64 y1, .int .i64 y2, .int .i64 y3, .int .i64 y4] 34) = w3 at *
          have RR := hid (own_rdE OW3.out)
          clear OW3
          go_wp2
          exact bodyPost_ret (by simp [results, Tryd.results17, go_sem]) rfl (RqP.no PN.out RR.out B3.out)
    · subst hks
      have PY := hid (RL.out.done)
      have RR := hid (own_rdE OW.out)
      have k1 : ¬ ((s.size : Int) + 1 ≤ (s.size : Int)) := by omega
      clear OW RL
      go_wp2
      exact bodyPost_ret (by simp [results, Tryd.results17, go_sem]) rfl (RqP.yes PY.out RR.out B.out)
end Go.Proofs.YtnaphgjkkagpoaaDoor
