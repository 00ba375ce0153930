/- glyph.Parse of any text: the events of its words, up to one that is none's. -/
import Derived.Test.YtnaphgjkkagpoaaDoorGlyRd
import Derived.Test.YtnaphgjkkagpoaaDoorSplW
import Derived.Test.YtnaphgjkkagpoaaDoorShelf3
import Derived.Test.YtnaphgjkkagpoaaDoorGlyT2
namespace Go.Proofs.YtnaphgjkkagpoaaDoor
set_option linter.unusedVariables false
set_option linter.unusedSimpArgs false
set_option maxRecDepth 20000
open Go.RowKit

/-- The words of a text, as texts. -/
def wordsB (s : ByteArray) : List ByteArray := Lib.splitB { data := #[32] } 0 (Lib.countB s { data := #[32] }) s
theorem wordsB_spl (s : ByteArray) : (wordsB s).map (·.data.toList) = spl s.data.toList := by
  unfold wordsB
  rw [Lib.splitB_data]
  exact split_spl _
theorem wordsB_len (s : ByteArray) : (wordsB s).length = Lib.countB s { data := #[32] } + 1 := Lib.splitB_all _ (by decide) 0 _ s rfl
theorem wordsB_max (s : ByteArray) : (wordsB s).length ≤ s.size + 1 := by
  have := spl_len s.data.toList
  rw [← wordsB_spl, List.length_map] at this
  rw [Lib.size_eq]
  exact this
theorem wordsB_word {s x : ByteArray} (h : x ∈ wordsB s) : x.size ≤ s.size := by
  have : x.data.toList ∈ spl s.data.toList := by rw [← wordsB_spl]; exact List.mem_map_of_mem h
  have := spl_word _ _ this
  rw [Lib.size_eq, Lib.size_eq]
  exact this
/-- So many runes stand up to there: those of the words, and one behind each. -/
def AtIs : List ByteArray → Nat → Prop
  | [], n => n = 0
  | x :: r, n => ∃ c m, IsCnt x c ∧ AtIs r m ∧ n = c + 1 + m
theorem AtIs.snoc : ∀ {r : List ByteArray} {n c : Nat} {x : ByteArray}, AtIs r n → IsCnt x c → AtIs (r ++ [x]) (n + c + 1)
  | [], n, c, x, h, hc => by
    have h : n = 0 := h
    exact ⟨c, 0, hc, rfl, by omega⟩
  | y :: r, n, c, x, ⟨c', m, h1, h2, h3⟩, hc => ⟨c', m + c + 1, h1, h2.snoc hc, by omega⟩
theorem AtIs.le : ∀ {r : List ByteArray} {n N : Nat}, AtIs r n → (∀ x ∈ r, x.size ≤ N) → n ≤ r.length * (N + 1)
  | [], n, N, h, _ => by
    have h : n = 0 := h
    simp [h]
  | y :: r, n, N, ⟨c', m, h1, h2, h3⟩, hx => by
    have := h2.le (fun z hz => hx z (by simp [hz]))
    have := h1.le
    have := hx y (by simp)
    simp only [List.length_cons, Nat.add_mul]
    omega
/-- So many words are those of events; the next one, if there is one, is none's. -/
structure Parsed (s : ByteArray) (es : List Ev) (ok : Bool) (at' : Nat) : Prop where
  ws : es.map wordE = (wordsB s).take es.length
  right : allR es = true
  fit : ∀ e ∈ es, fitE e
  yes : ok = true → es.length = (wordsB s).length ∧ at' = 0
  no : ok = false → ∃ h : es.length < (wordsB s).length, (∀ x, ¬ IsW ((wordsB s)[es.length]) x) ∧ AtIs (es.map wordE) at'
theorem Parsed.len {s : ByteArray} {es : List Ev} {ok : Bool} {n : Nat} (h : Parsed s es ok n) : es.length ≤ s.size + 1 := by
  have h1 := congrArg List.length h.ws
  rw [List.length_map, List.length_take] at h1
  have := wordsB_max s
  omega
/-- What strings.Split asks: how far bytealg.Index goes is a number. -/
def MaxL (w : World) : Prop := ∃ m, w.cell? ⟨2, 0, none⟩ = some (.int .i64 m)
theorem MaxL.lt {w : World} (h : MaxL w) : 2 < w.heap.size := by obtain ⟨m, h⟩ := h; exact cell_ltE h
theorem MaxL.at {w w' : World} (h : MaxL w) (hb : Below w.heap.size w w') : MaxL w' := by
  have := h.lt
  obtain ⟨m, h⟩ := h
  exact ⟨m, (hb.cell (p := ⟨2, 0, none⟩) this).trans h⟩
theorem MaxL.of {w : World} (h : w.ShapedOpen Tryd.prog) : MaxL w := Tryd.laysSplit.s1_3 w h
theorem split_any (s : ByteArray) (w : World) (M : MaxL w) (hs : s.size < 4294967281) :
    Calls Tryd.prog 25 #[.string s, .string { data := #[32] }] w fun e w' =>
      e = .returned (.slice (some ⟨w.heap.size, 0, none⟩) (wordsB s).length (wordsB s).length) ∧ w' = w.alloc (.cells ((wordsB s).map Value.string).toArray 9) := by
  obtain ⟨m, hm⟩ := M
  rw [wordsB_len]
  exact Any.strings_Split { Tryd.laysSplit with } Tryd.laysSplit.i9 s { data := #[32] } m w hs hm (by decide)
theorem word_cell (w : World) (ws : List ByteArray) (t : TypeId) {k : Nat} (hk : k < ws.length) : (w.alloc (.cells (ws.map Value.string).toArray t)).cell? ⟨w.heap.size, k, none⟩ = some (.string ws[k]) := by
  have h := heap_alloc_new w (.cells (ws.map Value.string).toArray t)
  simp only [World.cell?, h]
  simp [hk]
set_option maxHeartbeats 8000000 in
theorem parse_any (s : ByteArray) (hl : s.size ≤ 100000) (hne : s.size ≠ 0) (w : World) (GR : GlRunes w) (PT : PwTab w) (S : ErrSy w) (R : ErrRa w) (M : MaxL w) :
    Calls Tryd.prog 13 #[.string s] w fun e w' => ∃ (v : Value) (es : List Ev) (ok : Bool) (at' : Nat), e = .returned (.tuple #[v, .int .i64 at', .int .i64 (if ok then 0 else 5)]) ∧ Parsed s es ok at' ∧ RdE w' v es ∧ Below w.heap.size w w' := by
  have HGR := hid GR
  have HPT := hid PT
  have HS := hid S
  have HR := hid R
  have SP := hid (split_any s w M (by omega))
  have WW := hid (fun x => @wordsB_word s x)
  have WM := hid (wordsB_max s)
  have hse : s.toList.isEmpty = false := by
    rw [ByteArray.toList_eq]
    have : s.data.toList ≠ [] := fun h => hne (by rw [Lib.size_eq, h]; rfl)
    simpa using this
  obtain ⟨i0, hi, hz0, hz1, hz2⟩ := info_parts infoEv
  have HI := hid (And.intro hi (And.intro hz0 (And.intro hz1 hz2)))
  obtain ⟨n, hn⟩ : ∃ n, n = (wordsB s).length := ⟨_, rfl⟩
  have HN := hid hn
  rw [← hn] at SP WM
  have hn1 : n ≤ 100001 := by have := WM.out; omega
  clear GR PT S R M hi hz0 hz1 hz2 hn WM
  go_enter Tryd.func13, Tryd.ntmps13
  go_wp2_with fail
  refine SP.out.mono ?_
  rintro e w1 ⟨rfl, hw1⟩
  have C1 := hid (show ∀ k, (hk : k < (wordsB s).length) → w1.cell? ⟨w.heap.size, k, none⟩ = some (.string (wordsB s)[k]) from fun k hk => by rw [hw1]; exact word_cell w (wordsB s) _ hk)
  have B1 := hid (show Below w.heap.size w w1 by rw [hw1]; exact (Below.refl _ _).alloc (Nat.le_refl _) _)
  have HZ := hid (show w.heap.size < w1.heap.size by rw [hw1]; simp)
  clear hw1 SP
  go_wp2_with fail
  go_loopw [2, 3, 14] (fun v2 x i wr => ∃ (k : Nat) (es : List Ev) (q : Nat), k ≤ n ∧ es.length = k ∧ q ≤ k * 100001 ∧ x = .int .i64 q ∧ i = .int .i64 k ∧ Hid (es.map wordE = (wordsB s).take k ∧ allR es = true ∧ (∀ e ∈ es, fitE e) ∧ AtIs (es.map wordE) q) ∧ Hid (wr.ownsRow w1.heap.size 29 5 v2 k (fe es)) ∧ Hid (Below w1.heap.size w1 wr)) (fun _ _ i _ => n - (intOf i).toNat)
  case atStart => exact ⟨0, [], 0, Nat.zero_le _, rfl, by omega, rfl, rfl, hid ⟨by simp, rfl, by simp, rfl⟩, hid (World.ownsRow_nil w1 _ _ _), hid (Below.refl _ _)⟩
  case round =>
    obtain ⟨k, es, q, hk, hek, hq, rfl, rfl, PS, OW, B⟩ := hrel
    by_cases hlt : k < n
    · have hkw : k < (wordsB s).length := by have := HN.out; omega
      have c0 := ((B.out.cell (p := ⟨w.heap.size, k, none⟩) HZ.out).trans (C1.out k hkw))
      have WS := hid (WW.out _ (List.getElem_mem hkw))
      obtain ⟨N, hcn⟩ := cnt_ex (wordsB s)[k]
      have CN := hid hcn
      have hNs := Nat.le_trans hcn.le WS.out
      have WE := hid (show ∀ (h : k < (wordsB s).length), (wordsB s)[k] = (wordsB s)[k] from fun _ => rfl)
      have TK := hid (show (wordsB s).take (k + 1) = (wordsB s).take k ++ [(wordsB s)[k]] from (List.take_append_getElem hkw).symm)
      obtain ⟨wd, hwd⟩ : ∃ wd, wd = (wordsB s)[k] := ⟨_, rfl⟩
      rw [← hwd] at c0 WS CN TK
      have HW := hid hwd
      have hwl : wd.size ≤ 100000 := Nat.le_trans WS.out hl
      have BW := hid (B1.out.trans (B.out.mono B1.out.size))
      have RD := hid (read_any wd (by omega) wr (HGR.out.at BW.out) (HPT.out.at BW.out) (HS.out.at BW.out) (HR.out.at BW.out))
      clear WE hcn hwd
      go_wp2_with fail
      refine RD.out.mono ?_
      rintro e w2 ⟨h | h, hb⟩
      · obtain ⟨⟨kd, gg, mm, pp, vv⟩, hx, rfl⟩ := h
        have HX := hid hx
        have B2 := hid (B.out.trans (hb.mono B.out.size))
        have OW2 := hid (own_belowE OW.out hb)
        have hs2 := B2.out.size
        simp only
        clear hx OW B RD c0 hb BW
        go_upto_region 7 with (fail)
        have hbx := heap_alloc_new w2 (.cells #[.int .i64 kd, .int .i64 gg, .int .i64 mm, .int .i64 pp, .int .i64 vv] 29)
        have hs3 : (w2.alloc (.cells #[.int .i64 kd, .int .i64 gg, .int .i64 mm, .int .i64 pp, .int .i64 vv] 29)).heap.size = w2.heap.size + 1 := by simp
        have B3 := hid (B2.out.alloc B2.out.size (.cells #[.int .i64 kd, .int .i64 gg, .int .i64 mm, .int .i64 pp, .int .i64 vv] 29))
        have OW3 := hid (World.ownsRow.alloc OW2.out (.cells #[.int .i64 kd, .int .i64 gg, .int .i64 mm, .int .i64 pp, .int .i64 vv] 29))
        generalize w2.alloc (.cells #[.int .i64 kd, .int .i64 gg, .int .i64 mm, .int .i64 pp, .int .i64 vv] 29) = w3 at *
        obtain ⟨c0, c1, c2, c3, c4⟩ := ev5c hbx
        have OWL := hid (World.ownsRow.lt OW3.out)
        have HS3 := hid hs3
        have hO4 := hid (World.ownsRow.alloc OW3.out (.cells #[.int .i64 kd, .int .i64 gg, .int .i64 mm, .int .i64 pp, .int .i64 vv] 29))
        have NW := hid (news_ev w3 (kd, gg, mm, pp, vv) 29)
        have B4 := hid (B3.out.alloc B3.out.size (.cells #[.int .i64 kd, .int .i64 gg, .int .i64 mm, .int .i64 pp, .int .i64 vv] 29))
        have hs4 : (w3.alloc (.cells #[.int .i64 kd, .int .i64 gg, .int .i64 mm, .int .i64 pp, .int .i64 vv] 29)).heap.size = w3.heap.size + 1 := by simp
        have HS4 := hid hs4
        clear OW2 hbx OW3 B2 hs3 hs4
        go_wp2_with (at_builtin; refine wpList_append_own _ rfl _ _ 22 rfl w1.heap.size 29 i0 _ 5 40 Tryd.underlying22 HI.out.1 HI.out.2.1 HI.out.2.2.1 HI.out.2.2.2 rfl (by decide) _ _ _ rfl hO4.out ⟨w3.heap.size, 0, none⟩ 1 1 (fe [(kd, gg, mm, pp, vv)]) rfl rfl NW.out (fe_ones _) (by unfold maxLen; omega) (by omega) (by have := B4.out.size; omega) ?_)
        intro v' w6 hown6 hgrow _
        have O6 := hid (show w6.ownsRow w1.heap.size 29 5 v' (k + 1) (fe (es ++ [(kd, gg, mm, pp, vv)])) by rw [fe_app]; exact hown6)
        have B6 := hid (B4.out.grown hgrow B4.out.size (fun q hq => (OWL.out q hq).1))
        clear hown6 hgrow hO4 OWL B3 B4 NW c0 c1 c2 c3 c4
        have CA := hid (count_any wd N CN.out (by omega) w6)
        go_wp2_with fail
        refine CA.out.mono ?_
        rintro e w7 ⟨rfl, hb7⟩
        have B7 := hid (B6.out.trans (hb7.mono B6.out.size))
        have O7 := hid (own_belowE O6.out hb7)
        clear hb7 B6 O6 CA
        go_wp2
        go_roundw
        case rel =>
          refine ⟨k + 1, es ++ [(kd, gg, mm, pp, vv)], q + (N + 1), by omega, by simp; omega, by omega, by go_num, by go_num, hid ⟨?_, ?_, ?_, ?_⟩, O7, B7⟩
          · rw [List.map_append, PS.out.1, TK.out]
            simp [HX.out.2.2]
          · rw [allR_app, PS.out.2.1]
            simp [allR, HX.out.1]
          · intro e he
            rcases List.mem_append.1 he with he | he
            · exact PS.out.2.2.1 e he
            · simp at he; subst he; exact HX.out.2.1
          · rw [List.map_append]
            have := (PS.out.2.2.2).snoc CN.out
            simp only [List.map_cons, List.map_nil, HX.out.2.2]
            rw [Nat.add_assoc] at this
            exact this
        case measure => simp [intOf]; omega
      · obtain ⟨hno, rfl⟩ := h
        have NO := hid hno
        have OW2 := hid (own_belowE OW.out hb)
        have B2 := hid (BW.out.trans (hb.mono BW.out.size))
        have hs2 := hb.size
        clear hno OW B RD c0 hb BW
        go_upto_region 7 with (fail)
        have B3 := hid (B2.out.alloc B2.out.size (.cells #[.int .i64 0, .int .i64 0, .int .i64 0, .int .i64 0, .int .i64 0] 29))
        have OW3 := hid (World.ownsRow.alloc OW2.out (.cells #[.int .i64 0, .int .i64 0, .int .i64 0, .int .i64 0, .int .i64 0] 29))
        generalize w2.alloc (.cells #[.int .i64 0, .int .i64 0, .int .i64 0, .int .i64 0, .int .i64 0] 29) = w3 at *
        go_wp2
        have RR := own_rdE (es := es) (by rw [hek]; exact OW3.out)
        refine bodyPost_ret (by simp [results, Tryd.results13, go_sem]) rfl ⟨_, es, false, q, rfl, ⟨?_, PS.out.2.1, PS.out.2.2.1, (fun h => by cases h), fun _ => ?_⟩, RR, B3.out⟩
        · rw [hek]; exact PS.out.1
        · have hh : es.length < (wordsB s).length := by rw [hek, ← HN.out]; exact hlt
          refine ⟨hh, fun x hx => NO.out x ?_, PS.out.2.2.2⟩
          rw [HW.out]
          simpa [hek] using hx
    · obtain rfl : k = n := by omega
      have RR := hid (own_rdE (es := es) (by rw [hek]; exact OW.out))
      have BW := hid (B1.out.trans (B.out.mono B1.out.size))
      clear OW
      go_wp2
      refine bodyPost_ret (by simp [results, Tryd.results13, go_sem]) rfl ⟨_, es, true, 0, rfl, ⟨by rw [hek]; exact PS.out.1, PS.out.2.1, PS.out.2.2.1, fun _ => ⟨by rw [hek, HN.out], rfl⟩, fun h => by cases h⟩, RR.out, BW.out⟩
theorem parse_nil (w : World) : Calls Tryd.prog 13 #[.string { data := #[] }] w fun e w' => e = .returned (.tuple #[.slice none 0 0, .int .i64 0, .int .i64 0]) ∧ w' = w := by
  have hse : ({ data := #[] } : ByteArray).toList.isEmpty = true := by rw [ByteArray.toList_eq]; rfl
  go_enter Tryd.func13, Tryd.ntmps13
  go_wp2
  exact bodyPost_ret (v := .tuple #[.slice none 0 0, .int .i64 0, .int .i64 0]) (by simp [results, Tryd.results13, go_sem]) rfl ⟨rfl, rfl⟩
end Go.Proofs.YtnaphgjkkagpoaaDoor
