/- The walk of the statement BatchHalves: the law answers true and turns nothing that was there. -/
import Derived.Test.YtciilbpchejpcaaLives05
import Derived.Deep.LoopGhost
namespace Go.Proofs.Ytciilbpchejpcaa.batchHalves
open Go.RowKit
set_option linter.unusedVariables false

set_option maxHeartbeats 4000000 in
theorem walk (a0 : Option Addr) (len0 cap0 : Nat) (z0 : List Int) (w : World) (w0 : IsRow .i64 w a0 len0 cap0 z0) :
    Calls Try.prog 6 #[.slice a0 len0 cap0] w fun e w' => e = .returned (.bool true) ∧ Below w.heap.size w w' := by
  by_cases hlen : (60 : Int) < len0
  · go_enter Try.func6, Try.ntmps6
    go_wp2_with fail
    refine (lives5 _).mono ?_
    rintro e w2 ⟨rfl, hb1⟩
    go_wp2_with fail
    refine (lives5 _).mono ?_
    rintro e w3 ⟨rfl, hb2⟩
    go_wp2
    go_ret
    exact ⟨rfl, hb1.trans (hb2.mono hb1.size)⟩
  · have hlen' : len0 ≤ 60 := by omega
    obtain ⟨xs, hxs, hxl, hR⟩ := w0.reads
    subst hxl
    have HR := hid hR
    clear w0 hxs hR
    go_enter Try.func6, Try.ntmps6
    go_wp2_with fail
    refine (lives5 _).mono ?_
    rintro e w2 ⟨rfl, hb1⟩
    have hs1 := hb1.size
    go_wp2_with fail
    refine (of_any _ xs _ (by omega) (HR.out _ hb1)).mono ?_
    rintro e w3 ⟨p, r, rfl, hb3, hp3, hr3, hbel3⟩
    have HB3 := hid hb3
    have hs3 := hbel3.size
    have hbw3 : Below w.heap.size w w3 := hb1.trans (hbel3.mono hs1)
    clear hb3
    go_wp2_with fail
    go_loopg [4] (xs.length) (fun gk out wr => ∃ (ys os : List Int) (r : Option Nat), gk = ys.length ∧ wr.ownsRow w.heap.size 3 1 out os.length (os.map (Value.int .i64)) ∧ Hid (Bat wr p r ys) ∧ Hid (os ++ ys = xs) ∧ (∀ q, out.ownBlock = some q → r ≠ some q ∧ q ≠ p) ∧ (∀ q, r = some q → w.heap.size ≤ q) ∧ w.heap.size ≤ wr.heap.size ∧ p < wr.heap.size ∧ Below w.heap.size w wr)
    case atStart => exact ⟨xs, [], r, rfl, World.ownsRow_nil _ _ _ _, HB3, hid (by simp), fun q h => by simp [Value.ownBlock] at h, fun q hq => by have := hr3 q hq; omega, by omega, HB3.out.lt, hbw3⟩
    case round =>
      obtain ⟨ys, os, r, hgk, hown, HB, HE, hne, hrb, hsz, hpl, hbr⟩ := hrel
      have hll : os.length + ys.length ≤ 60 := by have := congrArg List.length HE.out; simp only [List.length_append] at this; omega
      obtain ⟨n, hn⟩ : ∃ n, n = ys.length := ⟨_, rfl⟩
      have HN := hid hn
      have L := hid (fun w h => blen_any p r ys w h)
      rw [← hn] at L hgk hll
      clear hn
      by_cases hn0 : 0 < n
      · go_wp2_with fail
        refine (L.out _ HB.out).mono ?_
        rintro e w4 ⟨rfl, hq4⟩
        have HB4 := hid (HB.out.quiet hq4)
        go_wp2_with fail
        refine (L.out _ HB4.out).mono ?_
        rintro e w5 ⟨rfl, hq5⟩
        have HB5 := hid (HB4.out.quiet hq5)
        go_wp2_with fail
        refine (half_any p r ys _ HB5.out).mono ?_
        rintro e w6 ⟨p2, r2, r', rfl, hb62, hb61, hon6, hr6, hp62, hr62, hne62⟩
        have HB62 := hid hb62
        have HB61 := hid hb61
        have hk : (n + 1) / 2 ≤ n := by omega
        obtain ⟨k, hke⟩ : ∃ k, k = (n + 1) / 2 := ⟨_, rfl⟩
        have hyn : ys.length = n := HN.out.symm
        rw [hyn, ← hke] at HB62 HB61
        have hk1 : k ≤ n := by omega
        have hk2 : n ≤ 2 * k := by omega
        have hk3 : 2 * k ≤ n + 1 := by omega
        have e1 : (ys.take k).length = k := by simp; omega
        have e2 : (ys.drop k).length = n - k := by simp; omega
        have L1 := hid (fun w h => blen_any p2 r2 (ys.take k) w h)
        have L2 := hid (fun w h => blen_any p r' (ys.drop k) w h)
        rw [e1] at L1
        rw [e2] at L2
        have E1 := hid e1
        have E2 := hid e2
        have HYN := hid hyn
        have hcast : ((n - k : Nat) : Int) = (n : Int) - k := by omega
        rw [hcast] at L2
        clear hke hyn e1 e2 hcast hb62 hb61 hk
        have hs6 := hon6.size
        have hs5 : w5.heap.size = wr.heap.size := by rw [hq5.heap, hq4.heap]
        have hon6' : OnlyO p r wr w6 := ((OnlyO.quiet hq4).trans (OnlyO.quiet (r := r) hq5) (.inl rfl)).trans hon6 (.inl rfl)
        go_wp2_with fail
        refine (L1.out _ HB62.out).mono ?_
        rintro e w7 ⟨rfl, hq7⟩
        have HB71 := hid (HB61.out.quiet hq7)
        have HB72 := hid (HB62.out.quiet hq7)
        go_wp2_with fail
        refine (L2.out _ HB71.out).mono ?_
        rintro e w8 ⟨rfl, hq8⟩
        have HB81 := hid (HB71.out.quiet hq8)
        have HB82 := hid (HB72.out.quiet hq8)
        go_wp2_with fail
        refine (L1.out _ HB82.out).mono ?_
        rintro e w9 ⟨rfl, hq9⟩
        have HB91 := hid (HB81.out.quiet hq9)
        have HB92 := hid (HB82.out.quiet hq9)
        go_wp2_with fail
        refine (L2.out _ HB91.out).mono ?_
        rintro e w10 ⟨rfl, hq10⟩
        have HBa1 := hid (HB91.out.quiet hq10)
        have HBa2 := hid (HB92.out.quiet hq10)
        go_wp2_with fail
        refine (L1.out _ HBa2.out).mono ?_
        rintro e w11 ⟨rfl, hq11⟩
        have HBb1 := hid (HBa1.out.quiet hq11)
        have HBb2 := hid (HBa2.out.quiet hq11)
        go_wp2_with fail
        refine (L2.out _ HBb1.out).mono ?_
        rintro e w12 ⟨rfl, hq12⟩
        have HBc1 := hid (HBb1.out.quiet hq12)
        have HBc2 := hid (HBb2.out.quiet hq12)
        have hqq : Quiet w6 w12 := ((((hq7.trans hq8).trans hq9).trans hq10).trans hq11).trans hq12
        clear HB71 HB72 HB81 HB82 HB91 HB92 HBa1 HBa2 HBb1 HBb2
        go_wp2_with fail
        refine (list_any p2 r2 _ _ HBc2.out).mono ?_
        rintro e w13 ⟨v13, rfl, ho13, hbel13⟩
        have RD := hid ho13.reads
        have ho13' := ho13
        obtain ⟨_, ⟨hv, hv0⟩ | ⟨g13, cap13, cur13, hv, hg13, _⟩⟩ := ho13'
        · exfalso; have := E1.out; omega
        subst hv
        have hcells : ∀ j u, ((ys.take k).map (Value.int .i64))[j]? = some u → w13.cell? ((⟨g13, 0, none⟩ : Addr).add j) = some u := by
          obtain ⟨a', c', he, _, hrd⟩ := RD.out
          simp only [Value.slice.injEq] at he
          obtain ⟨g', off', h2, h3, h4⟩ := hrd (by have := E1.out; omega)
          rw [h2] at he
          simp only [Option.some.injEq, Addr.mk.injEq] at he
          obtain ⟨⟨rfl, rfl, _⟩, _⟩ := he
          exact news_of h4
        have HC := hid hcells
        have holt := World.ownsRow.lt hown
        have hs12 : w12.heap.size = w6.heap.size := by rw [hqq.heap]
        have hs13 := hbel13.size
        have hkeep : ∀ q, (Value.ownBlock _) = some q → w13.heap[q]? = wr.heap[q]? := fun q hq => by
          have h1 := holt q hq
          have h2 := hne q hq
          rw [hbel13.block q (by omega), hqq.heap, hon6'.block q (by omega) h2.2 (fun e => h2.1 e.symm)]
        have hown13 : Owns w13 w.heap.size _ os := Owns.kept hown hkeep
        have hown13' : w13.ownsRow w.heap.size 3 1 _ os.length (os.map (Value.int .i64)) := hown13
        have hr'lt := HB61.out.rlt
        have hplt := HB61.out.lt
        have HB13 := hid (HBc1.out.below hbel13)
        rw [E1.out]
        clear hcells ho13 hown13 hkeep RD hown
        obtain ⟨i0, hi, hz0, hz1, hz2⟩ := info_parts infoInt
        go_wp2_with (at_builtin; refine wpList_append_own_at _ rfl _ _ 22 rfl w.heap.size 3 i0 (.int .i64 0) 1 8 Try.underlying22 hi hz0 hz1 hz2 rfl (by decide) _ _ _ rfl hown13' ⟨g13, 0, none⟩ k cap13 ((ys.take k).map (Value.int .i64)) rfl ?c0 ?c1 ?c2 ?c3 ?c4 ?c5 ?_)
        case c0 => rw [List.length_map, E1.out]; omega
        case c1 => exact HC.out
        case c2 => exact ones_of _
        case c3 => unfold maxLen; omega
        case c4 => omega
        case c5 => omega
        intro v' w14 hown14 hgrow _ hat
        clear hi hz0 hz1 hz2
        have hownN : w14.ownsRow w.heap.size 3 1 v' (os ++ ys.take k).length ((os ++ ys.take k).map (Value.int .i64)) := by
          have e : (os ++ ys.take k).length = os.length + k := by rw [List.length_append, E1.out]
          rw [e, List.map_append, List.map_take]; exact hown14
        have hsepr : r' = r ∨ ∀ q, r' = some q → wr.heap.size ≤ q := by
          rcases hr6 with h | h
          · exact .inl h
          · exact .inr fun q hq => by have := h q hq; omega
        have hold : ∀ q, (Value.ownBlock _) = some q → r' ≠ some q ∧ q ≠ p := fun q hq => by
          have h1 := holt q hq
          have h2 := hne q hq
          refine ⟨fun e => ?_, h2.2⟩
          rcases hsepr with h | h
          · rw [h] at e; exact h2.1 e
          · have := h q e; omega
        have hnew : ∀ q, v'.ownBlock = some q → r' ≠ some q ∧ q ≠ p := fun q hq => by
          rcases hat with h | h
          · rw [h] at hq; exact hold q hq
          · rw [h] at hq
            simp only [Option.some.injEq] at hq
            exact ⟨fun e => by have := hr'lt q e; omega, by omega⟩
        have HB14 := hid (HB13.out.kept (w' := w14) (hgrow.block p (by omega) (fun e => (hold p e.symm).2 rfl)) (fun q hq => hgrow.block q (by have := hr'lt q hq; omega) (fun e => (hold q e.symm).1 hq)))
        have hb14 : Below w.heap.size w w14 := by
          have b1 : Below w.heap.size wr w6 := hon6'.below (by omega) (fun q hq => hrb q hq) (by omega)
          have b2 := (hqq.below w.heap.size).trans (hbel13.mono (by omega))
          exact ((hbr.trans b1).trans b2).grown hgrow (by omega) (fun q hq => (holt q hq).1)
        have hs14 := hgrow.size
        have HE14 : Hid ((os ++ ys.take k) ++ ys.drop k = xs) := by
          show _ = _
          rw [List.append_assoc, List.take_append_drop]; exact HE.out
        have hr'b : ∀ q, r' = some q → w.heap.size ≤ q := fun q hq => by
          rcases hsepr with h | h
          · rw [h] at hq; exact hrb q hq
          · have := h q hq; omega
        clear hown14 hgrow hat hown13' HC hold
        go_wp2
        go_roundg ((ys.drop k).length)
        case rel => exact ⟨ys.drop k, os ++ ys.take k, r', rfl, hownN, HB14, HE14, hnew, hr'b, by omega, by omega, hb14⟩
        case measure => rw [E2.out]; omega
      · have hy0 : ys = [] := List.length_eq_zero_iff.1 (by rw [← HN.out]; omega)
        have hox : os = xs := by have := HE.out; rw [hy0, List.append_nil] at this; exact this
        have hn00 : n = 0 := by omega
        have H := hid (fun w h => half_any p r [] w h)
        have L0 := hid (fun p2 r2 w h => blen_any p2 r2 [] w h)
        subst hy0
        have hownO : Owns wr w.heap.size _ os := hown
        have RO := hid hownO.reads
        have HOX := hid hox
        have hol : os.length ≤ 60 := by omega
        clear hown hownO HE hox
        subst hn00
        go_wp2_with fail
        refine (L.out _ HB.out).mono ?_
        rintro e w4 ⟨rfl, hq4⟩
        have HB4 := hid (HB.out.quiet hq4)
        have RO4 := hid (RO.out.of_below (hq4.below _))
        have RX4 := hid (HR.out w4 (hbr.trans (hq4.below _)))
        go_wp2_with fail
        refine (same_any _ (.slice a0 xs.length cap0) os xs true (by rw [HOX.out]; simp) _ RO4.out RX4.out (by omega) (by omega)).mono ?_
        rintro e w5 ⟨rfl, hq5⟩
        have HB5 := hid (HB4.out.quiet hq5)
        go_wp2_with fail
        refine (H.out _ HB5.out).mono ?_
        rintro e w6 ⟨p2, r2, r', rfl, hb62, hb61, hon6, hr6, hp62, hr62, hne62⟩
        have HB62 := hid (show Bat w6 p2 r2 [] from hb62)
        clear hb62 hb61
        go_wp2_with fail
        refine (L0.out _ _ _ HB62.out).mono ?_
        rintro e w7 ⟨rfl, hq7⟩
        have hs5 : w5.heap.size = wr.heap.size := by rw [hq5.heap, hq4.heap]
        go_wp2
        go_ret
        exact ⟨rfl, (hbr.trans (((hq4.trans hq5).below _).trans (hon6.below (by omega) hrb (by omega)))).trans (hq7.below _)⟩
end Go.Proofs.Ytciilbpchejpcaa.batchHalves
