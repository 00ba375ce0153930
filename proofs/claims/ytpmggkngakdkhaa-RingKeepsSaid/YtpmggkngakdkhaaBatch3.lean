/- The contracts of package batch, continued: Put, Half; and the document's 'Same'. -/
import Derived.Test.YtpmggkngakdkhaaBatch2
import Derived.Test.YtpmggkngakdkhaaLists
namespace Go.Proofs.Ytpmggkngakdkhaa
set_option linter.unusedVariables false
set_option linter.unusedSimpArgs false
open Go.RowKit

/-- What 'Put' leaves. -/
def PutPost (p : Nat) (r : Option Nat) (zs : List Int) (w : World) (e : Ending) (w' : World) : Prop := e = .returned (.tuple #[]) ∧ Left p r zs w w'

theorem put_end {p : Nat} {r : Option Nat} {pre xs ys : List Int} {v v' : Value} {w w1 : World} (hb : Bat0 w p r pre xs) (hv : v.ownBlock = r) (hpl : pre.length ≤ 3 * xs.length + 3) (hl : (xs ++ ys).length ≤ 1000000)
    (hown : w1.ownsRow 0 3 1 v' (pre.length + xs.length + ys.length) (pre.map (Value.int .i64) ++ (xs.map (Value.int .i64) ++ ys.map (Value.int .i64)))) (hg : w.grownBy w1 v.ownBlock) (hat : v'.ownBlock = v.ownBlock ∨ v'.ownBlock = some w.heap.size)
    (hp1 : w1.heap[p]? = some (.cells #[v, .int .i64 pre.length] 34 (0, 0))) :
    Left p r (xs ++ ys) w (w1.setCell ⟨p, 0, none⟩ v') := by
  have hown' : Owns w1 0 v' (pre ++ (xs ++ ys)) := by
    unfold Owns
    have e1 : (pre ++ (xs ++ ys)).length = pre.length + xs.length + ys.length := by simp; omega
    have e2 : (pre ++ (xs ++ ys)).map (Value.int .i64) = pre.map (Value.int .i64) ++ (xs.map (Value.int .i64) ++ ys.map (Value.int .i64)) := by simp
    rw [e1, e2]; exact hown
  have hne : ∀ k, v'.ownBlock = some k → k ≠ p := by
    intro k hk e
    subst e
    rcases hat with h | h
    · rw [h, hv] at hk; exact hb.ne hk
    · rw [h] at hk; simp only [Option.some.injEq] at hk; have := hb.lt; omega
  refine ⟨v'.ownBlock, ⟨pre, ⟨⟨v', ?_, ?_, rfl⟩, fun e => hne p e rfl, hl⟩, by simp; omega⟩, ?_, ?_⟩
  · simp [World.setCell, Array.getElem?_modify, hp1]
  · exact hown'.kept fun k hk => Below.heap_setCell _ _ _ _ (hne k hk)
  · refine ⟨hg.os, hg.tape, hg.output, by have := hg.size; simp [World.setCell]; omega, fun k hk h1 h2 => ?_⟩
    rw [Below.heap_setCell _ _ _ _ h1]
    exact hg.block k hk (by rw [hv]; exact h2)
  · rcases hat with h | h
    · exact .inl (by rw [h, hv])
    · exact .inr fun k hk => by rw [h] at hk; simp only [Option.some.injEq] at hk; omega

set_option maxHeartbeats 2000000 in
theorem put_any (p : Nat) (r : Option Nat) (xs ys : List Int) (vl : Value) (w : World) (hb : Bat w p r xs) (hr : Reads w vl ys) (hl : (xs ++ ys).length ≤ 1000000) :
    Calls Try.prog 18 #[.pointer (some ⟨p, 0, none⟩), vl] w (PutPost p r (xs ++ ys) w) := by
  obtain ⟨pre, hb0, hpl⟩ := hb
  obtain ⟨v, hp, ho, hrv⟩ := hb0.h
  obtain ⟨va, vm, vc, rfl⟩ := ho.slice3
  obtain ⟨a, c, rfl, hc, hrd⟩ := hr
  obtain ⟨i0, hi, hz0, hz1, hz2⟩ := info_parts infoInt
  have hxl := hb0.len
  have hyl : ys.length ≤ 1000000 := by simp at hl; omega
  have hpl' : pre.length ≤ 4000000 := by omega
  have c0 : w.cell? ⟨p, 0, none⟩ = some (.slice va vm vc) := by simp [World.cell?, hp]
  have g0 : w.frozen? ⟨p, 0, none⟩ = false := by simp [World.frozen?, hp]
  have HB := hid hb0
  have HRV := hid hrv
  have HPL := hid hpl
  have HL := hid hl
  have HP := hid hp
  rcases hc.2.2 with ⟨rfl, rfl⟩ | ⟨ad, rfl⟩
  · have hy0 : ys = [] := List.length_eq_zero_iff.1 (by omega)
    subst hy0
    have FIN := hid (put_end (ys := []) (v' := .slice va vm vc) (w1 := w) hb0 hrv hpl hl (by simpa [Owns] using ho) ⟨rfl, rfl, rfl, Nat.le_refl _, fun _ _ _ => rfl⟩ (.inl rfl) hp)
    have ho' : w.ownsRow 0 3 1 (.slice va vm vc) (pre ++ xs).length ((pre ++ xs).map (Value.int .i64)) := ho
    clear hb0 hp ho hrv hpl hl hc hrd
    go_enter Try.func18, Try.ntmps18
    go_wp2_with (at_builtin; refine wpList_append_own_none rfl _ _ 22 rfl 0 3 i0 1 Try.underlying22 hi _ _ _ rfl ho' rfl ?_)
    go_end0
    exact ⟨rfl, FIN.out⟩
  · have hnews : ∀ j u, (ys.map (Value.int .i64))[j]? = some u → w.cell? (ad.add j) = some u := by
      intro j u hj
      have hpos : 0 < ys.length := by
        rcases Nat.eq_zero_or_pos ys.length with h | h
        · rw [List.length_eq_zero_iff] at h; subst h; simp at hj
        · exact h
      obtain ⟨g', off', h2, h3, h4⟩ := hrd hpos
      simp only [Option.some.injEq] at h2
      subst h2
      exact news_of h4 j u hj
    have HN := hid hnews
    have ho' : w.ownsRow 0 3 1 (.slice va vm vc) (pre ++ xs).length ((pre ++ xs).map (Value.int .i64)) := ho
    clear hb0 hp ho hrv hpl hl hc hrd hnews
    go_enter Try.func18, Try.ntmps18
    go_wp2_with (at_builtin; refine wpList_append_own_at _ rfl _ _ 22 rfl 0 3 i0 (.int .i64 0) 1 8 Try.underlying22 hi hz0 hz1 hz2 rfl (by decide) _ _ _ rfl ho' ad ys.length c (ys.map (Value.int .i64)) rfl ?c0 ?c1 ?c2 ?c3 ?c4 ?c5 ?_)
    case c0 => simp
    case c1 => exact HN.out
    case c2 => exact ones_of ys
    case c3 => simp; unfold maxLen; omega
    case c4 => simp; omega
    case c5 => omega
    intro v' w1 hown' hgrow _ hat
    have hp1 : w1.heap[p]? = some (.cells #[.slice va vm vc, .int .i64 pre.length] 34 (0, 0)) := by
      rw [hgrow.block p HB.out.lt (fun e => HB.out.ne (by rw [← HRV.out]; exact e.symm))]; exact HP.out
    have FIN := hid (put_end HB.out HRV.out HPL.out HL.out hown' hgrow hat hp1)
    obtain ⟨va', vm', vc', rfl⟩ : ∃ a m c, v' = .slice a m c := by
      obtain ⟨_, ⟨h, _⟩ | ⟨q, cap, cur, h, _⟩⟩ := hown'
      · exact ⟨_, _, _, h⟩
      · exact ⟨_, _, _, h⟩
    have c1 : w1.cell? ⟨p, 0, none⟩ = some (.slice va vm vc) := by simp [World.cell?, hp1]
    have g1 : w1.frozen? ⟨p, 0, none⟩ = false := by simp [World.frozen?, hp1]
    clear hown' hgrow hat hp1 ho' c0 g0
    go_wp2
    go_end0
    exact ⟨rfl, FIN.out⟩

/-- What 'Half' hands back, and leaves. -/
def HalfPost (p : Nat) (r : Option Nat) (xs : List Int) (k : Nat) (w : World) (e : Ending) (w' : World) : Prop :=
  ∃ p2 r2 r', e = .returned (.pointer (some ⟨p2, 0, none⟩)) ∧ Bat w' p2 r2 (xs.take k) ∧ Bat w' p r' (xs.drop k) ∧ OnlyO p r w w' ∧ (r' = r ∨ ∀ k, r' = some k → w.heap.size ≤ k) ∧ w.heap.size ≤ p2 ∧ (∀ q, r2 = some q → w.heap.size ≤ q ∧ r' ≠ some q) ∧ r' ≠ some p2

set_option maxHeartbeats 2000000 in
theorem half_any (p : Nat) (r : Option Nat) (xs : List Int) (w : World) (hb : Bat w p r xs) :
    Calls Try.prog 16 #[.pointer (some ⟨p, 0, none⟩)] w (HalfPost p r xs ((xs.length + 1) / 2) w) := by
  have HB := hid hb
  have hl := hb.len
  have hkl : (xs.length + 1) / 2 ≤ xs.length := by omega
  have hpl := hb.lt
  have hrl := hb.rlt
  have HRL := hid hrl
  obtain ⟨N, hN⟩ : ∃ N, N = xs.length := ⟨_, rfl⟩
  have L := hid (fun w h => blen_any p r xs w h)
  rw [← hN] at L hkl ⊢
  obtain ⟨k, hk⟩ : ∃ k, k = (N + 1) / 2 := ⟨_, rfl⟩
  have hkk : ((N : Int) + 1) / 2 = (k : Int) := by omega
  rw [← hk] at hkl ⊢
  have M := hid (fun w h => most_any p r xs (k : Int) k (by rw [← hN]; omega) w h)
  have hNl : N ≤ 1000000 := by omega
  have HTL := hid (show (xs.take k).length ≤ 1000000 by simp; omega)
  have HKK := hid hkk
  clear hb hl hN hk hrl hkk
  go_enter Try.func16, Try.ntmps16
  go_wp2_with fail
  refine (L.out _ HB.out).mono ?_
  rintro e w1 ⟨rfl, hq1⟩
  have HB1 := hid (HB.out.quiet hq1)
  go_wp2_with fail
  rw [HKK.out]
  refine (M.out _ HB1.out).mono ?_
  rintro e w2 ⟨v, r', rfl, ho2, hb2, hon2, hr2, hne2⟩
  have HO2 := hid ho2
  have HB2 := hid hb2
  have HRD := hid ho2.reads
  clear ho2 hb2
  go_wp2_with fail
  refine (of_any v (xs.take k) _ HTL.out HRD.out).mono ?_
  rintro e w3 ⟨p3, r3, rfl, hb3, hp3, hr3, hbel3⟩
  have hs1 : w1.heap.size = w.heap.size := by rw [hq1.heap]
  have hs2 := hon2.size
  have hlt2 := HB2.out.rlt
  have FIN := hid (show HalfPost p r xs k w (.returned (.pointer (some ⟨p3, 0, none⟩))) w3 from
    ⟨p3, r3, r', rfl, hb3, HB2.out.below hbel3, (OnlyO.quiet hq1).trans (hon2.trans (r' := r) (.of_below hbel3) (.inl rfl)) (.inl rfl), by
      rcases hr2 with h | h
      · exact .inl h
      · exact .inr fun q hq => by have := h q hq; omega, by omega, fun q hq => ⟨by have := hr3 q hq; omega, fun e => by have := hr3 q hq; have := hlt2 q e; omega⟩, fun e => by have := hlt2 p3 e; omega⟩)
  clear hb3 hon2 hr2 hne2 hlt2
  go_wp2
  go_ret
  exact FIN.out

set_option maxHeartbeats 2000000 in
theorem same_any (v1 v2 : Value) (xs ys : List Int) (r : Bool) (hr : r = decide (xs = ys)) (w : World) (h1 : Reads w v1 xs) (h2 : Reads w v2 ys) (hl1 : xs.length ≤ 10000000) (hl2 : ys.length ≤ 10000000) :
    Calls Try.prog 13 #[v1, v2] w fun e w' => e = .returned (.bool r) ∧ Quiet w w' := by
  obtain ⟨a1, c1, rfl, _, h1⟩ := h1
  obtain ⟨a2, c2, rfl, _, h2⟩ := h2
  have HR := hid hr
  have H1 := hid h1
  have H2 := hid h2
  obtain ⟨n, hn⟩ : ∃ n, n = xs.length := ⟨_, rfl⟩
  obtain ⟨m, hm⟩ : ∃ m, m = ys.length := ⟨_, rfl⟩
  have HN := hid hn
  have HM := hid hm
  have hn1 : n ≤ 10000000 := by omega
  have hm1 : m ≤ 10000000 := by omega
  rw [← hn, ← hm]
  clear hr h1 h2 hl1 hl2 hn hm
  by_cases hlen : n = m
  · subst hlen
    go_enter Try.func13, Try.ntmps13
    go_wp2_with fail
    go_loopw [13] (fun i wr => ∃ (k : Nat), k ≤ n ∧ i = .int .i64 k ∧ Quiet w wr ∧ Hid (xs.take k = ys.take k)) (fun i _ => n - (intOf i).toNat)
    case atStart => exact ⟨0, Nat.zero_le _, rfl, Quiet.refl _, by simp [Hid]⟩
    case round =>
      obtain ⟨k, hk, rfl, hq, ht⟩ := hrel
      by_cases hlt : k < n
      · have k1 : k < xs.length := by rw [← HN.out]; exact hlt
        have k2 : k < ys.length := by rw [← HM.out]; exact hlt
        obtain ⟨g1, o1, rfl, _, hc1⟩ := H1.out (by omega)
        obtain ⟨g2, o2, rfl, _, hc2⟩ := H2.out (by omega)
        obtain ⟨x, hx⟩ : ∃ x, x = xs.getD k 0 := ⟨_, rfl⟩
        obtain ⟨y, hy⟩ : ∃ y, y = ys.getD k 0 := ⟨_, rfl⟩
        have q1 := (hq.cell ⟨g1, o1 + k, none⟩).trans (hc1 k k1)
        have q2 := (hq.cell ⟨g2, o2 + k, none⟩).trans (hc2 k k2)
        rw [← hx] at q1
        rw [← hy] at q2
        have HX := hid hx
        have HY := hid hy
        have K1 := hid k1
        have K2 := hid k2
        clear hx hy hc1 hc2 k1 k2
        by_cases hxy : x = y
        · have exy : (x != y) = false := by simpa using hxy
          have HXY := hid hxy
          clear hxy
          go_wp2_with fail
          go_quiet (fail)
          all_goals
            go_wp2
            go_roundw
            case rel => exact ⟨k + 1, by omega, by go_num, hq.drewN _, hid (lst_take_succ ht.out K1.out K2.out (HX.out ▸ HY.out ▸ HXY.out))⟩
            case measure => simp [intOf]; omega
        · have exy : (x != y) = true := by simpa using hxy
          have HXY := hid hxy
          clear hxy
          go_wp2_with fail
          go_quiet (fail)
          all_goals
            go_wp2
            go_ret
            exact ⟨retB (by rw [HR.out]; exact lst_ne (by rw [← HX.out, ← HY.out]; exact HXY.out)), hq.drewN _⟩
      · go_wp2
        go_ret
        exact ⟨retB (by rw [HR.out]; exact decide_eq_true (lst_eq (k := k) (by have := HN.out; omega) (by have := HM.out; omega) ht.out)), hq⟩
  · have t : ((n : Int) != (m : Int)) = true := by simp; omega
    have HNE := hid hlen
    clear hlen
    go_enter Try.func13, Try.ntmps13
    go_wp2
    go_ret
    exact ⟨retB (by rw [HR.out]; exact decide_eq_false (fun h => HNE.out (by rw [HN.out, HM.out, h]))), Quiet.refl _⟩
end Go.Proofs.Ytpmggkngakdkhaa
