/- The document's Text of a row of events. -/
import Derived.Test.YtnaphgjkkagpoaaDoorGlyT
namespace Go.Proofs.YtnaphgjkkagpoaaDoor
set_option linter.unusedVariables false
set_option linter.unusedSimpArgs false
set_option maxRecDepth 20000
open Go.RowKit

theorem text_one (e : Ev) : textE [e] = wordE e := by
  unfold textE wordsL
  simp only [List.map_cons, List.map_nil, Lib.join_one]
theorem text_one' (e : Ev) : textE [e] = ({ data := #[] } : ByteArray) ++ wordE e := by
  rw [text_one]
  apply ByteArray.ext; simp [ByteArray.data_append]
theorem text_snoc {es : List Ev} (h : es ≠ []) (e : Ev) : textE (es ++ [e]) = (textE es ++ { data := #[32] }) ++ wordE e := by
  rw [text_two h (by simp), text_one]
theorem sz32' : ({ data := #[32] } : ByteArray).size = 1 := rfl
theorem allR_sub {es : List Ev} (h : allR es = true) (k : Nat) : allR (es.take k) = true := by
  unfold allR at *
  rw [List.all_eq_true] at *
  exact fun e he => h e (List.mem_of_mem_take he)
set_option maxHeartbeats 8000000 in
theorem rtext_any (w : World) (v : Value) (es : List Ev) (h : RdE w v es) (hr : allR es = true) (hf : ∀ e ∈ es, fitE e) (hl : es.length ≤ 1000) : Calls Tryd.prog 14 #[v] w fun e w' => e = .returned (.string (textE es)) ∧ Below w.heap.size w w' := by
  obtain ⟨n, hn⟩ : ∃ n, n = es.length := ⟨_, rfl⟩
  have HN := hid hn
  have RD := hid h
  have HF := hid hf
  have AR := hid hr
  obtain ⟨a, c, rfl, _, _⟩ := h
  rw [← hn] at hl ⊢
  obtain ⟨T, hT⟩ : ∃ T, T = textE es := ⟨_, rfl⟩
  have HT := hid hT
  rw [← hT]
  clear hn hr hf hT
  go_enter Tryd.func14, Tryd.ntmps14
  go_wp2_with fail
  go_loopw [3, 8] (fun v3 i wr => ∃ (k : Nat), k ≤ n ∧ i = .int .i64 k ∧ v3 = .string (textE (es.take k)) ∧ Hid (Below w.heap.size w wr)) (fun _ i _ => n - (intOf i).toNat)
  case atStart => exact ⟨0, Nat.zero_le _, rfl, rfl, hid (Below.refl _ _)⟩
  case round =>
    obtain ⟨k, hk, rfl, rfl, B⟩ := hrel
    by_cases hlt : k < n
    · obtain ⟨a', c', e, _, hh⟩ := RD.out.below B.out
      simp only [Value.slice.injEq] at e
      obtain ⟨rfl, _, rfl⟩ := e
      obtain ⟨q, off, rfl, _, hc⟩ := hh (by have := HN.out; omega)
      obtain ⟨h0, h1, h2, h3, h4⟩ := hc k (by have := HN.out; omega)
      have TK := ev_take (es := es) (k := k) (by have := HN.out; omega)
      have EM := evAt_mem (es := es) (k := k) (by have := HN.out; omega)
      have er := List.all_eq_true.1 AR.out _ EM
      have ef := HF.out _ EM
      have zt := text_size' (allR_sub AR.out k) (fun e he => HF.out e (List.mem_of_mem_take he))
      have zw := word_size er ef
      have hlk : (es.take k).length = k := by rw [List.length_take]; have := HN.out; omega
      rw [hlk] at zt
      have zw2 : (wordE (evAt es k)).size ≤ 90 := zw
      have TW : (k = 0 → textE (es.take (k + 1)) = textE (es.take k) ++ wordE (evAt es k)) ∧ (k ≠ 0 → textE (es.take (k + 1)) = (textE (es.take k) ++ { data := #[32] }) ++ wordE (evAt es k)) := by
        refine ⟨fun h => ?_, fun h => ?_⟩
        · rw [TK, h]
          exact text_one' _
        · rw [TK]
          exact text_snoc (fun e => h (by rw [← hlk, e]; rfl)) _
      have HTW := hid TW
      obtain ⟨kk, hkk, hk8, hw⟩ := right_k er
      clear EM TK hlk hh hc TW zw
      generalize evAt es k = ev at *
      obtain ⟨kd, gg, mm, pp, vv⟩ := ev
      simp only at h0 h1 h2 h3 h4 hkk hw
      subst hkk
      have RW := hid (rword_any kk gg mm pp vv er ef)
      rw [← hw] at RW
      clear er ef hw
      generalize textE (es.take k) = tk at *
      generalize wordE (↑kk, gg, mm, pp, vv) = wd at *
      have B2 := hid (B.out.alloc B.out.size (.cells #[.int .i64 kk, .int .i64 gg, .int .i64 mm, .int .i64 pp, .int .i64 vv] 34))
      have hbx := heap_alloc_new wr (.cells #[.int .i64 kk, .int .i64 gg, .int .i64 mm, .int .i64 pp, .int .i64 vv] 34)
      clear B
      by_cases hk0 : k = 0
      · have ET := HTW.out.1 hk0
        subst hk0
        simp only [Nat.zero_mul, Nat.add_zero] at h0 h1 h2 h3 h4
        have ad0 := fun w => run_string_add_sum (P := Tryd.prog) w tk wd (by omega)
        have hET := hid ET
        clear ET HTW zt zw2
        go_wp2_with fail
        refine (RW.out _).mono ?_
        rintro e w3 ⟨rfl, hb3⟩
        have B3 := hid (B2.out.trans (hb3.mono B2.out.size))
        clear RW B2 hb3
        go_wp2
        go_roundw
        case rel => exact ⟨0 + 1, by omega, by go_num, by rw [hET.out], B3⟩
        case measure => simp [intOf]; omega
      · have ET := HTW.out.2 hk0
        have hk1 : 0 < (k : Int) := by omega
        have ad0 := fun w => run_string_add_sum (P := Tryd.prog) w tk { data := #[32] } (by rw [sz32']; omega)
        have ad1 := fun w => run_string_add_sum (P := Tryd.prog) w (tk ++ { data := #[32] }) wd (by rw [ByteArray.size_append, sz32']; omega)
        have hET := hid ET
        clear ET HTW zt zw2
        go_wp2_with fail
        refine (RW.out _).mono ?_
        rintro e w3 ⟨rfl, hb3⟩
        have B3 := hid (B2.out.trans (hb3.mono B2.out.size))
        clear RW B2 hb3
        go_wp2
        go_roundw
        case rel => exact ⟨k + 1, by omega, by go_num, by rw [hET.out], B3⟩
        case measure => simp [intOf]; omega
    · obtain rfl : k = n := by omega
      rw [List.take_of_length_le (by have := HN.out; omega), ← HT.out]
      go_wp2
      go_ret
      exact ⟨rfl, B.out⟩
end Go.Proofs.YtnaphgjkkagpoaaDoor
