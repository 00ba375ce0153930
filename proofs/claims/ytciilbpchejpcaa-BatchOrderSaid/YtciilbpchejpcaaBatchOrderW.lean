/- The walk of the statement BatchOrder: the law answers true and turns nothing that was there. -/
import Derived.Test.YtciilbpchejpcaaBatch4
import Derived.Test.YtciilbpchejpcaaLives05
import Derived.Test.YtciilbpchejpcaaRowsR
namespace Go.Proofs.Ytciilbpchejpcaa.batchOrder
open Go.RowKit
set_option linter.unusedVariables false
set_option linter.unusedSimpArgs false

/-- The first k parts, one behind the other. -/
def cat (P : Nat → List Int) (k : Nat) : List Int := (List.range k).flatMap P
theorem cat_succ (P : Nat → List Int) (k : Nat) : cat P (k + 1) = cat P k ++ P k := by simp [cat, List.range_succ]
theorem drop_cons (l : List Int) (j : Nat) (h : j < l.length) : l.drop j = l.getD j 0 :: l.drop (j + 1) := by
  rw [List.drop_eq_getElem_cons h]; simp [h]
/-- A slice over none of a batch's blocks. -/
def Off (v : Value) (p : Nat) (r : Option Nat) : Prop := ∀ q, v.ownBlock = some q → r ≠ some q ∧ q ≠ p

set_option maxHeartbeats 4000000 in
theorem walk (a0 : Option Addr) (len0 cap0 : Nat) (A0 : Nat → Option Addr) (L0 C0 : Nat → Nat) (z0 : Nat → List Int) (w : World) (w0 : IsRows .i64 w a0 len0 cap0 A0 L0 C0 z0) :
    Calls Try.prog 5 #[.slice a0 len0 cap0] w fun e w' => e = .returned (.bool true) ∧ Below w.heap.size w w' := by
  by_cases hlen : (20 : Int) < len0
  · go_enter Try.func5, Try.ntmps5
    go_wp2_with fail
    refine (lives5 _).mono ?_
    rintro e w2 ⟨rfl, hb1⟩
    go_wp2_with fail
    refine (lives5 _).mono ?_
    rintro e w3 ⟨rfl, hb2⟩
    go_wp2
    go_ret
    exact ⟨rfl, hb1.trans (hb2.mono hb1.size)⟩
  · have hlen' : len0 ≤ 20 := by omega
    have W0 := hid w0
    obtain ⟨P, hP⟩ : ∃ P : Nat → List Int, P = fun j => (z0 j).take (L0 j) := ⟨_, rfl⟩
    have HP := hid hP
    clear w0 hlen hP
    go_enter Try.func5, Try.ntmps5
    go_wp2_with fail
    refine (lives5 _).mono ?_
    rintro e w2 ⟨rfl, hb1⟩
    have hs1 := hb1.size
    go_wp2_with fail
    refine (of_any _ [] _ (by simp) ⟨none, 0, rfl, ⟨by simp, by unfold maxLen; omega, .inl ⟨rfl, rfl⟩⟩, fun h => absurd h (by simp)⟩).mono ?_
    rintro e w3 ⟨p, r, rfl, hb3, hp3, hr3, hbel3⟩
    have HB3 := hid hb3
    have HRW := hid (fun k hk => (by have := hr3 k hk; omega : w.heap.size ≤ k))
    have hs3 := hbel3.size
    have hbw3 : Below w.heap.size w w3 := hb1.trans (hbel3.mono hs1)
    clear hb3 hr3
    go_wp2_with fail
    go_loopw [4, 24] (fun all i wr => ∃ (k n : Nat) (r : Option Nat), k ≤ len0 ∧ n ≤ 20 * k ∧ i = .int .i64 k ∧ wr.ownsRow w.heap.size 3 1 all n ((cat P k).map (Value.int .i64)) ∧ Hid (n = (cat P k).length) ∧ Hid (Bat wr p r (cat P k)) ∧ Hid (Off all p r) ∧ Hid (∀ j, r = some j → w.heap.size ≤ j) ∧ w.heap.size ≤ wr.heap.size ∧ Below w.heap.size w wr)
      (fun _ i _ => len0 - (intOf i).toNat)
    case atStart => exact ⟨0, 0, r, by omega, by omega, rfl, World.ownsRow_nil _ _ _ _, by rfl, HB3, (fun q h => by simp [Value.ownBlock] at h : Off _ _ _), HRW, by omega, hbw3⟩
    case round =>
      obtain ⟨k, n, r, hk, hnk, rfl, hown, HN, HB, HOF, HRa, hsz, hbr⟩ := hrel
      by_cases hlt : k < len0
      · obtain ⟨bx, off, rfl, hcell⟩ := W0.out.open.resolve_left (by omega)
        have hc := hcell _ hbr k hlt
        clear hcell
        by_cases hbig : (20 : Int) < L0 k
        · go_wp2
          go_ret
          exact ⟨rfl, hbr⟩
        · obtain ⟨xs, hxs, hxl, hR⟩ := (W0.out.row k hlt).reads
          have hPk : P k = xs := by rw [hxs, HP.out]
          have HXS := hid hPk
          have HR := hid hR
          have HXL := hid hxl
          have hlk : L0 k ≤ 20 := by omega
          clear hPk hR hxl hxs
          have hown0 := hown
          obtain ⟨va, vm, vc, rfl⟩ := (show Owns wr w.heap.size _ (cat P k) by unfold Owns; rw [← HN.out]; exact hown).slice3
          have HOWN := hid hown
          clear hown hown0
          go_wp2_with fail
          refine (put_any p r (cat P k) xs _ _ HB.out (HR.out _ hbr) (by have := HN.out; have := HXL.out; simp; omega)).mono ?_
          rintro e w5 ⟨rfl, r5, hb5, ho5, hr5⟩
          have hz5 := ho5.size
          have hbw5 : Below w.heap.size w w5 := hbr.trans (ho5.below (by omega) HRa.out (by omega))
          have holt := World.ownsRow.lt HOWN.out
          have hown5 : w5.ownsRow w.heap.size 3 1 (.slice va vm vc) n ((cat P k).map (Value.int .i64)) := by
            have h1 : Owns wr w.heap.size (.slice va vm vc) (cat P k) := by unfold Owns; rw [← HN.out]; exact HOWN.out
            have h2 := h1.kept (w' := w5) (fun q hq => ho5.block q (holt q hq).2 (HOF.out q hq).2 (fun e => (HOF.out q hq).1 e.symm))
            unfold Owns at h2; rwa [← HN.out] at h2
          have HOF5 : Hid (Off (.slice va vm vc) p r5) := fun q hq => ⟨fun e => by
            rcases hr5 with h | h
            · rw [h] at e; exact (HOF.out q hq).1 e
            · have := h q e; have := (holt q hq).2; omega, (HOF.out q hq).2⟩
          have HB5 := hid hb5
          have HR5 := hid (fresh_ge' HRa.out hr5 (by omega))
          have HRD := hid (HR.out _ hbw5)
          have B1 := hid (show n + xs.length ≤ maxLen by have := HXL.out; unfold maxLen; omega)
          have B2 := hid (show (n + xs.length) * 8 ≤ 140737488355328 by have := HXL.out; omega)
          obtain ⟨i0, hi, hz0, hz1, hz2⟩ := info_parts infoInt
          have HI := hid hi
          have HZ0 := hid hz0
          have HZ1 := hid hz1
          have HZ2 := hid hz2
          have hws : w.heap.size ≤ w5.heap.size := by omega
          clear hb5 ho5 hr5 holt hi hz0 hz1 hz2
          go_wp2_with (with_reducible refine wpList_append_reads rfl (.tmp 34) (.tmp 35) 22 rfl w.heap.size 3 i0 (.int .i64 0) 8 Try.underlying22 HI.out HZ0.out HZ1.out HZ2.out (by decide) (.slice va vm vc) n _ rfl hown5 xs (.slice (A0 k) (L0 k) (C0 k)) rfl HRD.out B1.out B2.out hws ?_)
          intro v6 w6 hown6 hgr6 hat6
          have holt5 := World.ownsRow.lt hown5
          have HK6 := hid (show w6.ownsRow w.heap.size 3 1 v6 (n + xs.length) ((cat P (k + 1)).map (Value.int .i64)) by rw [cat_succ, HXS.out, List.map_append]; exact hown6)
          have HN6 := hid (show n + xs.length = (cat P (k + 1)).length by rw [cat_succ, HXS.out, List.length_append, ← HN.out])
          have HB6 := hid (show Bat w6 p r5 (cat P (k + 1)) by
            rw [cat_succ, HXS.out]
            exact HB5.out.kept (hgr6.block p HB5.out.lt (fun e => (HOF5.out p e.symm).2 rfl)) (fun q hq => hgr6.block q (HB5.out.rlt q hq) (fun e => (HOF5.out q e.symm).1 hq)))
          have HOF6 : Hid (Off v6 p r5) := fun q hq => by
            rcases hat6 with h | h
            · rw [h] at hq; exact HOF5.out q hq
            · rw [h] at hq
              simp only [Option.some.injEq] at hq
              exact ⟨fun e => by have := HB5.out.rlt q e; omega, by have := HB5.out.lt; omega⟩
          have hbw6 : Below w.heap.size w w6 := hbw5.grown hgr6 (by omega) (fun q hq => (holt5 q hq).1)
          have hz6 := hgr6.size
          have hn6 : n + xs.length ≤ 20 * (k + 1) := by have := HXL.out; omega
          clear hown5 hown6 hgr6 hat6 holt5
          go_wp2
          go_roundw
          case rel => exact ⟨k + 1, _, r5, by omega, hn6, by go_num, HK6.out, HN6, HB6, HOF6, HR5, by omega, hbw6⟩
          case measure => simp [intOf]; omega
      · have hke : k = len0 := by omega
        subst hke
        have ho := hown
        rw [HN.out] at ho
        replace ho : Owns wr w.heap.size _ (cat P k) := ho
        obtain ⟨l, hl⟩ : ∃ l, l = cat P k := ⟨_, rfl⟩
        rw [← hl] at ho HB HN
        obtain ⟨va, vc, rfl⟩ := ho.slice
        rw [← HN.out] at HOF ho
        have HO := hid ho
        have hn20 : n ≤ 400 := by omega
        have HLE := hid (show l.drop n = [] by rw [HN.out]; simp)
        have HD0 := hid (show Bat wr p r (l.drop 0) from HB.out)
        clear hown hl hnk ho
        rw [← HN.out]
        go_wp2_with fail
        go_loopw [40] (fun i w' => ∃ (j : Nat) (r' : Option Nat), j ≤ n ∧ i = .int .i64 j ∧ Hid (Owns w' w.heap.size (.slice va n vc) l) ∧ Hid (Bat w' p r' (l.drop j)) ∧ Hid (Off (.slice va n vc) p r') ∧ Hid (∀ q, r' = some q → w.heap.size ≤ q) ∧ w.heap.size ≤ w'.heap.size ∧ Below w.heap.size w w')
          (fun i _ => n - (intOf i).toNat)
        case atStart => exact ⟨0, r, by omega, rfl, HO, HD0, HOF, HRa, hsz, hbr⟩
        case round =>
          clear HO HB HD0 HOF HRa hsz hbr r
          obtain ⟨j, r, hj, rfl, HO, HB, HOF, HRa, hsz, hbr⟩ := hrel
          by_cases hlt : j < n
          · obtain ⟨a, ha⟩ : ∃ a, a = l.getD j 0 := ⟨_, rfl⟩
            have hjl : j < l.length := by have := HN.out; omega
            have hd := drop_cons l j hjl
            rw [← ha] at hd
            have HB' := HB.out
            rw [hd] at HB'
            have HBc := hid HB'
            obtain ⟨a', c', he, _, hrd⟩ := HO.out.reads
            simp only [Value.slice.injEq] at he
            obtain ⟨g, off, h2, h3, h4⟩ := hrd (by omega)
            have hcj := h4 j hjl
            rw [← ha] at hcj
            have he1 := he.1
            rw [h2] at he1
            clear he h2
            subst he1
            clear ha hd HB' hrd h4 HB
            go_wp2_with fail
            refine (take_cons p r a (l.drop (j + 1)) _ HBc.out).mono ?_
            rintro e w5 ⟨rfl, r5, hb5, ho5, hr5⟩
            have hz5 := ho5.size
            have hbw5 : Below w.heap.size w w5 := hbr.trans (ho5.below (by omega) HRa.out (by omega))
            have holt := HO.out.lt
            have HO5 := hid (HO.out.kept (w' := w5) (fun q hq => ho5.block q (holt q hq).2 (HOF.out q hq).2 (fun e => (HOF.out q hq).1 e.symm)))
            have HOF5 : Hid (Off (.slice (some ⟨g, off, none⟩) n vc) p r5) := fun q hq => ⟨fun e => by
              rcases hr5 with h | h
              · rw [h] at e; exact (HOF.out q hq).1 e
              · have := h q e; have := (holt q hq).2; omega, (HOF.out q hq).2⟩
            have HB5 := hid hb5
            have HR5 := hid (fresh_ge' HRa.out hr5 (by omega))
            clear hb5 ho5 hr5 holt
            go_wp2
            go_roundw
            case rel => exact ⟨j + 1, r5, by omega, by go_num, HO5, HB5, HOF5, HR5, by omega, hbw5⟩
            case measure => simp [intOf]; omega
          · have hje : j = n := by omega
            subst hje
            have HB' := HB.out
            rw [HLE.out] at HB'
            have HBc := hid HB'
            have LC := hid (fun w h => blen_any p r [] w h)
            clear HB' HB
            go_wp2_with fail
            refine (take_nil p r _ HBc.out).mono ?_
            rintro e w5 ⟨rfl, hq5⟩
            have HB5 := hid (HBc.out.quiet hq5)
            have HQ5 := hid hq5
            clear hq5
            go_wp2_with fail
            refine (LC.out _ HB5.out).mono ?_
            rintro e w6 ⟨rfl, hq6⟩
            go_wp2
            go_ret
            exact ⟨rfl, hbr.trans ((HQ5.out.trans hq6).below _)⟩
end Go.Proofs.Ytciilbpchejpcaa.batchOrder
