/- Heap.Remove. -/
import Derived.Test.YthabcnjddeoebaaHeapF
import Derived.Test.YthabcnjddeoebaaLives09
import Derived.Test.YthabcnjddeoebaaHeap9
namespace Go.Proofs.Ythabcnjddeoebaa
set_option linter.unusedVariables false
set_option linter.unusedSimpArgs false
open Go.RowKit

def RmPost (w : World) (base p : Nat) (v : Value) (es : List (Int × Int × Int)) (g : Int) (e : Ending) (w' : World) : Prop :=
  ∃ v' T, e = .returned (.int .i64 (es.length - (rest g es).length : Nat)) ∧ Hp w' base p v' T ∧ (Ord es → Ord T) ∧ (∀ x, T.count x = (rest g es).count x) ∧ OnlyQ p v w w' ∧ (∀ q, v'.ownBlock = some q → v.ownBlock = some q) ∧ OnlyV p base w w'
theorem rest_len (g : Int) (es : List (Int × Int × Int)) : (rest g es).length ≤ es.length := List.length_filter_le _ _
theorem rest_eq {g : Int} {es : List (Int × Int × Int)} (h : (rest g es).length = es.length) : rest g es = es := by
  unfold rest at *
  exact List.filter_eq_self.2 (List.length_filter_eq_length_iff.1 h)
set_option maxHeartbeats 4000000 in
theorem hdelete_nil (g : Int) (X : Nat) (w : World) (hX : w.heap[X]? = some (.cells #[.int .i64 g] 3 (0, 0))) :
    Calls Try.prog 37 #[.slice none 0 0, .func (.func 38) #[] #[.pointer (some ⟨X, 0, none⟩)]] w fun e w' => e = .returned (.slice none 0 0) ∧ Below w.heap.size w w' := by
  have IX := hid (hindex 0 0 0 none [] g X w rfl (by omega) hX (fun h => by omega) (by omega) (by simp) (fun i hi => by omega))
  unfold IxPost at IX
  simp only [List.findIdx_nil, List.length_nil, if_true] at IX
  go_enter Try.func37, Try.ntmps37
  go_wp2_with fail
  refine (IX.out).mono ?_
  rintro e w5 ⟨rfl, hb5⟩
  have HB := hid hb5
  clear hb5
  go_wp2
  go_ret
  exact ⟨rfl, HB.out⟩
set_option maxHeartbeats 8000000 in
theorem hremove_nil (w : World) (base p : Nat) (g : Int) (h : Hp w base p (.slice none 0 0) []) :
    Calls Try.prog 11 #[.pointer (some ⟨p, 0, none⟩), .int .i64 g] w (RmPost w base p (.slice none 0 0) [] g) := by
  have hp := h.lt
  have HA := hid (h.below ((Below.refl w.heap.size w).alloc (Nat.le_refl _) (.cells #[.int .i64 g] 3)))
  have NX := hid (Deep.blk_alloc_new w (.cells #[.int .i64 g] 3))
  have hmf : ∀ (fn : Fn) (first cap : Array Value) (w : World), (Instr.makeFunc fn first cap).run Try.prog w = .ok (.func fn first cap) w := fun _ _ _ _ => rfl
  have OW := hid (show Below w.heap.size w (w.alloc (.cells #[.int .i64 g] 3)) from (Below.refl _ _).alloc (Nat.le_refl _) _)
  clear h
  go_enter Try.func11, Try.ntmps11
  go_wp2_with fail
  refine (hlen0 _ base p _ HA.out).mono ?_
  rintro e w' ⟨rfl, rfl⟩
  have c0 := HA.out.c0
  go_wp2_with fail
  refine (hdelete_nil g w.heap.size _ NX.out).mono ?_
  rintro e w5 ⟨rfl, hb5⟩
  have H5 := hid (HA.out.below hb5)
  have B5 := hid (OW.out.trans (hb5.mono OW.out.size))
  have c5 := H5.out.c0
  have f5 := H5.out.f0
  have st := H5.out.st
  have H6 : Hid (Hp (w5.setCell ⟨p, 0, none⟩ (.slice none 0 0)) base p (.slice none 0 0) []) := by
    refine hid ⟨by simp [World.setCell, Array.getElem?_modify, st], ⟨by simp [fl], .inl ⟨rfl, rfl⟩⟩, by simp [Value.ownBlock], by simp⟩
  have Q6 : Hid (OnlyQ p (.slice none 0 0) w (w5.setCell ⟨p, 0, none⟩ (.slice none 0 0))) := hid ⟨by have := B5.out.size; simpa [World.setCell] using this, fun k hk hkp _ => by rw [Below.heap_setCell _ _ _ _ hkp]; exact B5.out.block k hk⟩
  have V6 : Hid (OnlyV p base w (w5.setCell ⟨p, 0, none⟩ (.slice none 0 0))) := hid ⟨B5.out.os, B5.out.tape, B5.out.output, Q6.out.size, fun k hk _ hkp => by rw [Below.heap_setCell _ _ _ _ hkp]; exact B5.out.block k hk⟩
  clear hb5 c0 st HA NX OW
  go_wp2_with fail
  generalize w5.setCell ⟨p, 0, none⟩ (.slice none 0 0) = w6 at *
  refine (hlen0 _ base p _ H6.out).mono ?_
  rintro e w' ⟨rfl, rfl⟩
  go_wp2
  go_ret
  exact ⟨_, [], rfl, H6.out, fun h => h, fun x => rfl, Q6.out, fun q hq => hq, V6.out⟩

theorem cnt_ret {a b : Nat} {x : Int} (h : x = ((a - b : Nat) : Int)) : Ending.returned (.int .i64 x) = .returned (.int .i64 ((a - b : Nat) : Int)) := by rw [h]
set_option maxHeartbeats 8000000 in
theorem hremove_some (w : World) (base p gr c : Nat) (es : List (Int × Int × Int)) (g : Int) (h : Hp w base p (.slice (some ⟨gr, 0, none⟩) es.length c) es) (hnc : es.length ≤ c) (hcm : c ≤ maxLen) :
    Calls Try.prog 11 #[.pointer (some ⟨p, 0, none⟩), .int .i64 g] w (RmPost w base p (.slice (some ⟨gr, 0, none⟩) es.length c) es g) := by
  have hp := h.lt
  obtain ⟨hgb, hgl⟩ := h.own_lt gr rfl
  have hgp : gr ≠ p := fun e => h.ne (by rw [← e]; rfl)
  have hle := h.len
  obtain ⟨n, hn⟩ : ∃ n, n = es.length := ⟨_, rfl⟩
  have HN := hid hn.symm
  have HA := hid (h.below ((Below.refl w.heap.size w).alloc (Nat.le_refl _) (.cells #[.int .i64 g] 3)))
  have NX := hid (Deep.blk_alloc_new w (.cells #[.int .i64 g] 3))
  have hmf : ∀ (fn : Fn) (first cap : Array Value) (w : World), (Instr.makeFunc fn first cap).run Try.prog w = .ok (.func fn first cap) w := fun _ _ _ _ => rfl
  have OW := hid (show Below w.heap.size w (w.alloc (.cells #[.int .i64 g] 3)) from (Below.refl _ _).alloc (Nat.le_refl _) _)
  have hs1 : (w.alloc (.cells #[.int .i64 g] 3)).heap.size = w.heap.size + 1 := by simp
  have LN := hid (hlen _ base p _ es HA.out)
  rw [← hn] at LN HA hnc hle ⊢
  have DL := hid (hdelete gr n c base es g w.heap.size _ (by have := HA.out.own; rw [← hn] at this; exact this) hn.symm hle hnc hcm NX.out (by omega))
  obtain ⟨m, hm⟩ : ∃ m, m = (rest g es).length := ⟨_, rfl⟩
  have HM := hid hm
  have hmn : m ≤ n := by rw [hm, hn]; exact rest_len g es
  unfold DlPost at DL
  rw [← hm] at DL
  have c0 := HA.out.c0
  unfold maxLen at hcm
  clear h hn hm
  go_enter Try.func11, Try.ntmps11
  go_wp2_with fail
  refine (LN.out).mono ?_
  rintro e w' ⟨rfl, rfl⟩
  go_wp2_with fail
  refine (DL.out).mono ?_
  rintro e w5 ⟨rfl, ho5, hon5⟩
  have st := (hon5.block p (by omega) (fun e => hgp e.symm) (fun e => hgp e.symm)).trans HA.out.st
  have c5 : w5.cell? ⟨p, 0, none⟩ = some (.slice (some ⟨gr, 0, none⟩) n c) := cell_ent st rfl
  have f5 : w5.frozen? ⟨p, 0, none⟩ = false := by simp [World.frozen?, st]
  have S6 : Hid (Hs (w5.setCell ⟨p, 0, none⟩ (.slice (some ⟨gr, 0, none⟩) m c)) base p gr m c (rest g es) (w5.setCell ⟨p, 0, none⟩ (.slice (some ⟨gr, 0, none⟩) m c))) := by
    refine hid ⟨⟨by simp [World.setCell, Array.getElem?_modify, st], ?_, by simp [Value.ownBlock]; exact hgp, by rw [← HM.out]; omega⟩, HM.out.symm, OnlyH.refl _, by omega, by unfold maxLen; omega⟩
    rw [← HM.out]
    obtain ⟨h0, ⟨h1, h2⟩ | ⟨q, cap, cur, h1, h2, h3, h4⟩⟩ := ho5
    · cases h1
    · simp only [Value.slice.injEq, Option.some.injEq, Addr.mk.injEq] at h1
      obtain ⟨⟨rfl, _⟩, _, rfl⟩ := h1
      exact ⟨h0, .inr ⟨gr, c, cur, rfl, h2, (Below.heap_setCell _ _ _ _ hgp).trans h3, h4⟩⟩
  have Q6 : Hid (∀ w9, OnlyH p gr (w5.setCell ⟨p, 0, none⟩ (.slice (some ⟨gr, 0, none⟩) m c)) w9 → OnlyQ p (.slice (some ⟨gr, 0, none⟩) n c) w w9) := hid (fun w9 h9 => by
    have e0 := OW.out.size
    have e1 := hon5.size
    have e2 := h9.size
    have e3 : (w5.setCell ⟨p, 0, none⟩ (.slice (some ⟨gr, 0, none⟩) m c)).heap.size = w5.heap.size := by simp [World.setCell]
    refine ⟨by omega, fun k hk hkp hkg => ?_⟩
    have hkgr : k ≠ gr := fun e => hkg (by rw [e]; rfl)
    rw [h9.block k (by omega) hkgr hkp, Below.heap_setCell _ _ _ _ hkp, hon5.block k (by omega) hkgr hkgr]
    exact OW.out.block k hk)
  have V6 : Hid (∀ w9, OnlyH p gr (w5.setCell ⟨p, 0, none⟩ (.slice (some ⟨gr, 0, none⟩) m c)) w9 → OnlyV p base w w9) := hid (fun w9 h9 => by
    have e0 := OW.out.size
    have e1 := hon5.size
    have e2 := h9.size
    have e3 : (w5.setCell ⟨p, 0, none⟩ (.slice (some ⟨gr, 0, none⟩) m c)).heap.size = w5.heap.size := by simp [World.setCell]
    refine ⟨(h9.os.trans hon5.os).trans OW.out.os, (h9.tape.trans hon5.tape).trans OW.out.tape, (h9.output.trans hon5.output).trans OW.out.output, by omega, fun k hk hkb hkp => ?_⟩
    rw [h9.block k (by omega) (by omega) hkp, Below.heap_setCell _ _ _ _ hkp, hon5.block k (by omega) (by omega) (by omega)]
    exact OW.out.block k hk)
  clear ho5 hon5 st c0 HA NX OW DL LN
  go_wp2_with fail
  generalize w5.setCell ⟨p, 0, none⟩ (.slice (some ⟨gr, 0, none⟩) m c) = w6 at *
  refine (S6.out.len).mono ?_
  rintro e wz ⟨rfl, hwz⟩
  have hwy := hwz.symm
  clear hwz
  subst hwy
  by_cases hall : m = n
  · have e1 : ((m : Int) == n) = true := beq_iff_eq.2 (by omega)
    have HE := hid (rest_eq (g := g) (es := es) (by rw [← HM.out, HN.out]; exact hall))
    have HALL := hid hall
    clear hall
    go_wp2
    go_ret
    refine ⟨_, _, cnt_ret (by rw [← HM.out, HN.out, HALL.out]; omega), S6.out.hp, fun ho => by rw [HE.out]; exact ho, fun x => rfl, Q6.out _ (OnlyH.refl _), fun q hq => hq, V6.out _ (OnlyH.refl _)⟩
  · have e1 : ((m : Int) == n) = false := beq_eq_false_iff_ne.2 (by omega)
    have hmn' : m < n := by omega
    clear hall
    have hm0 : (0 : Int) ≤ m := by omega
    have hm9 : (m : Int) ≤ 100000 := by omega
    go_wp2_with fail
    refine (S6.out.len).mono ?_
    rintro e wz ⟨rfl, hwz⟩
    have hwy := hwz.symm
    clear hwz
    subst hwy
    go_wp2_with fail
    go_loopw [6] (fun i wr => ∃ (j : Int) (L : List (Int × Int × Int)), i = .int .i64 j ∧ -1 ≤ j ∧ j ≤ (m : Int) / 4 ∧ Hid (Hs w6 base p gr m c L wr) ∧ Hid (OrdF L (j + 1).toNat) ∧ Hid (∀ x, L.count x = (rest g es).count x))
      (fun i _ => (intOf i + 1).toNat)
    case atStart => exact ⟨(m : Int) / 4, rest g es, rfl, by omega, by omega, S6, hid (by have := OrdF.first (rest g es); rw [← HM.out] at this; rw [show ((m : Int) / 4 + 1).toNat = m / 4 + 1 by omega]; exact this), hid (fun x => rfl)⟩
    case round =>
      obtain ⟨j, L, rfl, hj1, hj2, SR, OR, CR⟩ := hrel
      by_cases hj : 0 ≤ j
      · obtain ⟨i, hi⟩ : ∃ i : Nat, (i : Int) = j := ⟨j.toNat, by omega⟩
        subst hi
        have him : i < m ∨ (m = 0 ∧ i = 0) := by omega
        have SK := hid (sink_any wr base p gr m c i L SR.out.root him)
        have O2 := hid (OrdF.sink (n := m) (i := i) (by have := OR.out; rw [show ((i : Int) + 1).toNat = i + 1 by omega] at this; exact this) SR.out.hn him)
        have C2 := hid (show ∀ x, (sinkF (m + 1) L m i).count x = (rest g es).count x from fun x => by
          rcases him with h' | ⟨h', h''⟩
          · have := sink_count (m + 1) L i (by rw [SR.out.hn]; exact h') x
            rw [SR.out.hn] at this
            rw [this]; exact CR.out x
          · subst h' h''
            have hL : L = [] := List.length_eq_zero_iff.1 SR.out.hn
            rw [hL, sinkF, if_pos (by decide), ← hL]
            exact CR.out x)
        clear him
        go_wp2_with fail
        refine (SK.out).mono ?_
        rintro e w8 ⟨rfl, h8⟩
        have S8 := hid (show Hs w6 base p gr m c (sinkF (m + 1) L m i) w8 from ⟨h8.hp, h8.hn, SR.out.ho.trans h8.ho, h8.hc, h8.hm⟩)
        clear h8 SK
        go_wp2
        go_roundw
        case rel => exact ⟨(i : Int) - 1, sinkF (m + 1) L m i, by go_num, by omega, by omega, S8, hid (by rw [show ((i : Int) - 1 + 1).toNat = i by omega]; exact O2.out), C2⟩
        case measure => (simp [intOf]; try omega)
      · obtain rfl : j = -1 := by omega
        have OA := hid (show Ord L from OrdF.all (by have := OR.out; exact this))
        go_wp2_with fail
        refine (SR.out.len).mono ?_
        rintro e w' ⟨rfl, rfl⟩
        go_wp2
        go_ret
        refine ⟨_, L, cnt_ret (by rw [← HM.out, HN.out]; omega), SR.out.hp, fun _ => OA.out, CR.out, Q6.out _ SR.out.ho, fun q hq => hq, V6.out _ SR.out.ho⟩

theorem rm_len {g : Int} {es T : List (Int × Int × Int)} (h : ∀ x, T.count x = (rest g es).count x) : T.length ≤ es.length :=
  Nat.le_trans (Nat.le_of_eq (List.perm_iff_count.2 h).length_eq) (rest_len g es)
/-- Whatever the heap is. -/
theorem hremove (w : World) (base p : Nat) (v : Value) (es : List (Int × Int × Int)) (g : Int) (h : Hp w base p v es) :
    Calls Try.prog 11 #[.pointer (some ⟨p, 0, none⟩), .int .i64 g] w (RmPost w base p v es g) := by
  obtain ⟨h0, ⟨h1, h2⟩ | ⟨q, cap, cur, h1, h2, h3, h4, h5, _⟩⟩ := h.own
  · subst h1
    obtain rfl : es = [] := List.length_eq_zero_iff.1 h2
    exact hremove_nil w base p g h
  · subst h1
    exact hremove_some w base p q cap es g h h4 h5
def RmC (c : Nat) (w : World) (base p : Nat) (v : Value) (es : List (Int × Int × Int)) (g : Int) (e : Ending) (w' : World) : Prop :=
  ∃ v' T, e = .returned (.int .i64 c) ∧ Hp w' base p v' T ∧ (Ord es → Ord T) ∧ (∀ x, T.count x = (rest g es).count x) ∧ OnlyQ p v w w' ∧ (∀ q, v'.ownBlock = some q → v.ownBlock = some q) ∧ OnlyV p base w w'
theorem hremove_c (c : Nat) (w : World) (base p : Nat) (v : Value) (es : List (Int × Int × Int)) (g : Int) (h : Hp w base p v es) (hc : es.length - (rest g es).length = c) :
    Calls Try.prog 11 #[.pointer (some ⟨p, 0, none⟩), .int .i64 g] w (RmC c w base p v es g) := by
  subst hc
  exact hremove w base p v es g h
end Go.Proofs.Ythabcnjddeoebaa
