/- tally.Order as a contract. -/
import Derived.Test.YtlgkjaeijceekaaGreatDoorTally
import Derived.Test.YtlgkjaeijceekaaGreatDoorPre1
namespace Go.Proofs.YtlgkjaeijceekaaGreatDoor
set_option linter.unusedVariables false
set_option linter.unusedSimpArgs false
set_option maxRecDepth 20000
open Go.RowKit

/-- Who was dispatched. -/
def ord (es : List Ev) : List Int := (es.filter fun e => e.1 == 2).map fun e => e.2.1
theorem ord_app (es fs : List Ev) : ord (es ++ fs) = ord es ++ ord fs := by simp [ord]
theorem ord_len (es : List Ev) : (ord es).length ≤ es.length := by
  unfold ord
  rw [List.length_map]
  exact List.length_filter_le _ _

set_option maxHeartbeats 4000000 in
theorem order_any (v : Value) (es : List Ev) (w : World) (hr : RdE w v es) (hl : es.length ≤ 1000) :
    Calls Tryz.prog 10 #[v] w (ClonePost (ord es) w) := by
  have RD := hid hr
  obtain ⟨a, c, rfl, _, _⟩ := hr
  obtain ⟨n, hn⟩ : ∃ n, n = es.length := ⟨_, rfl⟩
  have HN := hid hn
  rw [← hn] at hl ⊢
  clear hn
  have I0 := hid infoInt
  go_enter Tryz.func10, Tryz.ntmps10
  go_wp2_with fail
  go_loopw [3, 8] (fun x i wr => ∃ (k : Nat), k ≤ n ∧ i = .int .i64 k ∧ Hid (Owns wr w.heap.size x (ord (es.take k))) ∧ Hid (Below w.heap.size w wr))
    (fun _ i _ => n - (intOf i).toNat)
  case atStart => exact ⟨0, by omega, rfl, hid ⟨by simp [ord], .inl ⟨rfl, by simp [ord]⟩⟩, hid (Below.refl _ _)⟩
  case round =>
    obtain ⟨k, hk, rfl, OW, B⟩ := hrel
    by_cases hlt : k < n
    · obtain ⟨a', c', e, _, hh⟩ := RD.out.below B.out
      simp only [Value.slice.injEq] at e
      obtain ⟨rfl, _, rfl⟩ := e
      obtain ⟨q, off, rfl, _, hc⟩ := hh (by have := HN.out; omega)
      obtain ⟨h0, h1, h2, h3, h4⟩ := hc k (by have := HN.out; omega)
      have T := hid (ev_take (es := es) (k := k) (by have := HN.out; omega))
      generalize evAt es k = ev at *
      obtain ⟨kd, gg, mm, pp, vv⟩ := ev
      simp only at h0 h1 h2 h3 h4
      have hol : (ord (es.take k)).length ≤ k := Nat.le_trans (ord_len _) (List.length_take_le _ _)
      have OE := hid (show ord (es.take (k + 1)) = ord (es.take k) ++ (if kd = 2 then [gg] else []) by
        rw [T.out, ord_app]; congr 1; by_cases h : kd = 2 <;> simp [ord, h])
      generalize ord (es.take k) = os at *
      have B2 := hid (B.out.alloc B.out.size (.cells #[.int .i64 kd, .int .i64 gg, .int .i64 mm, .int .i64 pp, .int .i64 vv] 46))
      have hbs := B.out.size
      have hO2 : (wr.alloc (.cells #[.int .i64 kd, .int .i64 gg, .int .i64 mm, .int .i64 pp, .int .i64 vv] 46)).ownsRow w.heap.size 3 1 _ os.length (os.map (Value.int .i64)) := OW.out.alloc _
      have OWL := hid OW.out.lt
      have hsz : (wr.alloc (.cells #[.int .i64 kd, .int .i64 gg, .int .i64 mm, .int .i64 pp, .int .i64 vv] 46)).heap.size = wr.heap.size + 1 := by simp
      clear B hh hc OW
      by_cases hkd : kd = 2
      · have OE2 := hid (OE.out.trans (by rw [if_pos hkd]))
        subst hkd
        obtain ⟨i0, hi, hz0, hz1, hz2⟩ := info_parts I0.out
        have hO3 := hO2.alloc (.cells #[.int .i64 gg] 3)
        clear hO2
        go_wp2_with (at_builtin; refine wpList_append_own_at _ rfl _ _ 33 rfl w.heap.size 3 i0 (.int .i64 0) 1 8 Tryz.underlying33 hi hz0 hz1 hz2 rfl (by decide) _ _ _ rfl hO3 ⟨wr.heap.size + 1, 0, none⟩ 1 1 [.int .i64 gg] rfl rfl ?c1 ?c2 ?c3 ?c4 ?c5 ?_)
        case c2 => rfl
        case c3 => unfold maxLen; omega
        case c4 => omega
        case c5 => omega
        intro v' w6 hown6 hgrow _ _
        have O6 := hid (show Owns w6 w.heap.size v' (ord (es.take (k + 1))) by
          rw [OE2.out]
          unfold Owns
          rw [List.length_append, List.map_append]
          exact hown6)
        have B6 := hid ((B2.out.alloc (by omega) (.cells #[.int .i64 gg] 3)).grown hgrow (by simp; omega) (fun q hq => (OWL.out q hq).1))
        clear hown6 hgrow hO3 OWL hi hz0 hz1 hz2 OE B2
        go_wp2
        go_roundw
        case rel => exact ⟨k + 1, by omega, by go_num, O6, B6⟩
        case measure => simp [intOf]; omega
      · have hkn : (kd == 2) = false := by simpa using hkd
        have O2 := hid (show Owns _ w.heap.size _ (ord (es.take (k + 1))) by rw [OE.out, if_neg hkd, List.append_nil]; exact hO2)
        clear hkd OE hO2
        go_wp2_with fail
        go_roundw
        case rel => exact ⟨k + 1, by omega, by go_num, O2, B2⟩
        case measure => simp [intOf]; omega
    · obtain rfl : k = n := by omega
      rw [List.take_of_length_le (by have := HN.out; omega)] at OW
      have FIN := hid (show ClonePost (ord es) w (.returned _) wr from ⟨_, rfl, OW.out, B.out⟩)
      clear OW B
      go_wp2
      go_ret
      exact FIN.out
end Go.Proofs.YtlgkjaeijceekaaGreatDoor
