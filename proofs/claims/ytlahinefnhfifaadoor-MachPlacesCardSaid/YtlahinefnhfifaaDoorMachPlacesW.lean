/- The walk of the statement MachPlaces: the law answers true and turns nothing that was there. -/
import Derived.Test.YtlahinefnhfifaaDoorMach5
namespace Go.Proofs.YtlahinefnhfifaaDoor.machPlaces
open Go.RowKit
set_option linter.unusedVariables false
set_option linter.unusedSimpArgs false

/-- The document's names, as a slice of its own. -/
def NmPost (w : World) (e : Ending) (w' : World) : Prop :=
  ∃ b, e = .returned (.slice (some ⟨b, 0, none⟩) 31 31) ∧ b < w'.heap.size ∧ (∀ k, k < 31 → w'.cell? ⟨b, k, none⟩ = some (.string (maPlace0 k))) ∧ Below w.heap.size w w'
set_option maxRecDepth 100000 in
set_option maxHeartbeats 8000000 in
theorem names_any (w : World) : Calls Tryd.prog 26 #[] w (NmPost w) := by
  go_enter Tryd.func26, Tryd.ntmps26
  go_wp2
  go_ret
  refine ⟨w.heap.size, rfl, by simp, fun k hk => ?_, (Below.refl _ _).alloc (Nat.le_refl _) _⟩
  refine (blk_cell (heap_alloc_new w _) ?_)
  exact match k, hk with
  | 0, _ => rfl
  | 1, _ => rfl
  | 2, _ => rfl
  | 3, _ => rfl
  | 4, _ => rfl
  | 5, _ => rfl
  | 6, _ => rfl
  | 7, _ => rfl
  | 8, _ => rfl
  | 9, _ => rfl
  | 10, _ => rfl
  | 11, _ => rfl
  | 12, _ => rfl
  | 13, _ => rfl
  | 14, _ => rfl
  | 15, _ => rfl
  | 16, _ => rfl
  | 17, _ => rfl
  | 18, _ => rfl
  | 19, _ => rfl
  | 20, _ => rfl
  | 21, _ => rfl
  | 22, _ => rfl
  | 23, _ => rfl
  | 24, _ => rfl
  | 25, _ => rfl
  | 26, _ => rfl
  | 27, _ => rfl
  | 28, _ => rfl
  | 29, _ => rfl
  | 30, _ => rfl
  | k + 31, hk => absurd hk (by omega)

set_option maxHeartbeats 8000000 in
/-- What is left behind the first test: the names one by one, then the name asked for. -/
theorem walk_at (want : ByteArray) (a0 : Int) (a1 : ByteArray) (w : World) (T : MaPlaces w) (B : MaBlock w)
    (hin : (∃ k : Nat, k < 31 ∧ a0 = k ∧ want = maPlace0 k) ∨ ((a0 < 0 ∨ 30 < a0) ∧ want = { data := #[] })) :
    Calls Tryd.prog 7 #[.int .i64 a0, .string a1] w fun e w' => e = .returned (.bool true) ∧ Below w.heap.size w w' := by
  have HT := hid T
  have HB := hid B
  have HI := hid hin
  clear T B hin
  go_enter Tryd.func7, Tryd.ntmps7
  go_wp2_with fail
  refine (lives19 _ HT.out).mono ?_
  rintro e x1 ⟨rfl, hx1⟩
  have HT1 := hid (HT.out.at hx1)
  have HB1 := hid (HB.out.at hx1)
  go_wp2_with fail
  refine (names_any _).mono ?_
  rintro e x2 ⟨b, rfl, hbl, hcl, hx2'⟩
  have hx2 : Below w.heap.size w x2 := hx1.trans (hx2'.mono hx1.size)
  have HT2 := hid (HT1.out.at hx2')
  have HB2 := hid (HB1.out.at hx2')
  have HX2 := hid hx2
  have HC := hid hcl
  have NA := hid (show ∀ w', MaPlaces w' → Calls Tryd.prog 27 #[.int .i64 a0] w' fun e w2 => e = .returned (.string want) ∧ w' = w2 from fun w' T' => by
    rcases HI.out with ⟨k, hk, rfl, rfl⟩ | ⟨h, rfl⟩
    · exact mname_in k w' T' hk
    · exact mname_out a0 w' h)
  have hsz2 := hx2.size
  clear hx1 hx2 hx2' HT HB HT1 HB1 hcl
  have hq := txt_eq want
  have FIN : Hid (∀ K : Prop, K → K) := fun _ h => h
  rcases HI.out with ⟨k, hk, rfl, hw⟩ | ⟨h, hw⟩
  · have t1 : decide ((0 : Int) ≤ k) = true := decide_eq_true (by omega)
    have t2 : decide ((k : Int) < 31) = true := decide_eq_true (by omega)
    have h0 : (0 : Int) ≤ k := by omega
    have h31 : (k : Int) < 31 := by omega
    have c0 := HC.out k hk
    rw [← hw] at c0
    clear HI hw
    go_wp2_with fail
    refine (NA.out _ HT2.out).mono ?_
    rintro e x3 ⟨rfl, rfl⟩
    clear c0
    go_wp2_with fail
    clear NA HT2
    go_loopw [39] (fun i wr => ∃ k : Nat, k ≤ 31 ∧ i = .int .i64 k ∧ x2.heap.size ≤ wr.heap.size ∧ Below x2.heap.size x2 wr ∧ Hid (∀ j, j < k → a1 ≠ maPlace0 j)) (fun i _ => 31 - (intOf i).toNat)
    case atStart => exact ⟨0, by omega, rfl, Nat.le_refl _, Below.refl _ _, hid (fun j hj => by omega)⟩
    case round =>
      obtain ⟨j, hj, rfl, hsz, hbr, HK⟩ := hrel
      by_cases hlt : j < 31
      · have cj : wr.cell? ⟨b, j, none⟩ = some (.string (maPlace0 j)) := by rw [hbr.cell (p := ⟨b, j, none⟩) hbl]; exact HC.out j hlt
        have hlt' : (j : Int) < 31 := by omega
        have hj0 : (0 : Int) ≤ j := by omega
        have BR := hid (HB2.out.at hbr)
        have HN := hid (fun wx (B : MaBlock wx) => mnamed_in (maPlace0 j) j hlt wx B rfl)
        by_cases he : maPlace0 j = a1
        · obtain ⟨t, ht⟩ : ∃ t, t = maPlace0 j := ⟨_, rfl⟩
          rw [← ht] at cj HN he
          have hq2 := txt_eq t
          have HBR := hid hbr
          clear ht hbr
          subst he
          go_wp2_with fail
          refine (HN.out _ BR.out).mono ?_
          rintro e y ⟨rfl, hy⟩
          have HF := hid (HX2.out.trans ((HBR.out.trans (hy.mono hsz)).mono hsz2))
          clear hy
          go_wp2
          go_ret
          exact ⟨rfl, HF.out⟩
        · have hq2 := txt_ne he
          have HK' := hid (show ∀ l, l < j + 1 → a1 ≠ maPlace0 l from fun l hl => by
            rcases Nat.lt_or_ge l j with h | h
            · exact HK.out l h
            · obtain rfl : l = j := by omega
              exact fun e => he e.symm)
          obtain ⟨t, ht⟩ : ∃ t, t = maPlace0 j := ⟨_, rfl⟩
          rw [← ht] at cj HN hq2
          have HBR := hid hbr
          clear ht hbr he HK
          go_wp2_with fail
          refine (HN.out _ BR.out).mono ?_
          rintro e y ⟨rfl, hy⟩
          have hyz := hy.size
          have HF := hid (HBR.out.trans (hy.mono hsz))
          clear hy
          go_wp2
          go_roundw
          case rel => exact ⟨j + 1, by omega, by go_num, by omega, HF.out, HK'⟩
          case measure => simp [intOf]; omega
      · obtain rfl : j = 31 := by omega
        have BR := hid (HB2.out.at hbr)
        have NN := hid (mnamed_none a1 wr BR.out HK.out)
        have HBR := hid hbr
        clear hbr
        go_wp2_with fail
        refine NN.out.mono ?_
        rintro e y ⟨rfl, hy⟩
        have HF := hid (HX2.out.trans ((HBR.out.trans (hy.mono hsz)).mono hsz2))
        clear hy
        go_wp2
        go_ret
        exact ⟨rfl, HF.out⟩
  · subst hw
    rcases h with h | h
    · have t1 : decide ((0 : Int) ≤ a0) = false := decide_eq_false (by omega)
      clear HI
      go_wp2_with fail
      refine (NA.out _ HT2.out).mono ?_
      rintro e x3 ⟨rfl, rfl⟩
      go_wp2_with fail
      clear NA HT2
      go_loopw [39] (fun i wr => ∃ k : Nat, k ≤ 31 ∧ i = .int .i64 k ∧ x2.heap.size ≤ wr.heap.size ∧ Below x2.heap.size x2 wr ∧ Hid (∀ j, j < k → a1 ≠ maPlace0 j)) (fun i _ => 31 - (intOf i).toNat)
      case atStart => exact ⟨0, by omega, rfl, Nat.le_refl _, Below.refl _ _, hid (fun j hj => by omega)⟩
      case round =>
        obtain ⟨j, hj, rfl, hsz, hbr, HK⟩ := hrel
        by_cases hlt : j < 31
        · have cj : wr.cell? ⟨b, j, none⟩ = some (.string (maPlace0 j)) := by rw [hbr.cell (p := ⟨b, j, none⟩) hbl]; exact HC.out j hlt
          have hlt' : (j : Int) < 31 := by omega
          have hj0 : (0 : Int) ≤ j := by omega
          have BR := hid (HB2.out.at hbr)
          have HN := hid (fun wx (B : MaBlock wx) => mnamed_in (maPlace0 j) j hlt wx B rfl)
          by_cases he : maPlace0 j = a1
          · obtain ⟨t, ht⟩ : ∃ t, t = maPlace0 j := ⟨_, rfl⟩
            rw [← ht] at cj HN he
            have hq2 := txt_eq t
            have HBR := hid hbr
            clear ht hbr
            subst he
            go_wp2_with fail
            refine (HN.out _ BR.out).mono ?_
            rintro e y ⟨rfl, hy⟩
            have HF := hid (HX2.out.trans ((HBR.out.trans (hy.mono hsz)).mono hsz2))
            clear hy
            go_wp2
            go_ret
            exact ⟨rfl, HF.out⟩
          · have hq2 := txt_ne he
            have HK' := hid (show ∀ l, l < j + 1 → a1 ≠ maPlace0 l from fun l hl => by
              rcases Nat.lt_or_ge l j with h | h
              · exact HK.out l h
              · obtain rfl : l = j := by omega
                exact fun e => he e.symm)
            obtain ⟨t, ht⟩ : ∃ t, t = maPlace0 j := ⟨_, rfl⟩
            rw [← ht] at cj HN hq2
            have HBR := hid hbr
            clear ht hbr he HK
            go_wp2_with fail
            refine (HN.out _ BR.out).mono ?_
            rintro e y ⟨rfl, hy⟩
            have hyz := hy.size
            have HF := hid (HBR.out.trans (hy.mono hsz))
            clear hy
            go_wp2
            go_roundw
            case rel => exact ⟨j + 1, by omega, by go_num, by omega, HF.out, HK'⟩
            case measure => simp [intOf]; omega
        · obtain rfl : j = 31 := by omega
          have BR := hid (HB2.out.at hbr)
          have NN := hid (mnamed_none a1 wr BR.out HK.out)
          have HBR := hid hbr
          clear hbr
          go_wp2_with fail
          refine NN.out.mono ?_
          rintro e y ⟨rfl, hy⟩
          have HF := hid (HX2.out.trans ((HBR.out.trans (hy.mono hsz)).mono hsz2))
          clear hy
          go_wp2
          go_ret
          exact ⟨rfl, HF.out⟩
    · have t1 : decide ((0 : Int) ≤ a0) = true := decide_eq_true (by omega)
      have t2 : decide ((a0 : Int) < 31) = false := decide_eq_false (by omega)
      clear HI
      go_wp2_with fail
      refine (NA.out _ HT2.out).mono ?_
      rintro e x3 ⟨rfl, rfl⟩
      go_wp2_with fail
      clear NA HT2
      go_loopw [39] (fun i wr => ∃ k : Nat, k ≤ 31 ∧ i = .int .i64 k ∧ x2.heap.size ≤ wr.heap.size ∧ Below x2.heap.size x2 wr ∧ Hid (∀ j, j < k → a1 ≠ maPlace0 j)) (fun i _ => 31 - (intOf i).toNat)
      case atStart => exact ⟨0, by omega, rfl, Nat.le_refl _, Below.refl _ _, hid (fun j hj => by omega)⟩
      case round =>
        obtain ⟨j, hj, rfl, hsz, hbr, HK⟩ := hrel
        by_cases hlt : j < 31
        · have cj : wr.cell? ⟨b, j, none⟩ = some (.string (maPlace0 j)) := by rw [hbr.cell (p := ⟨b, j, none⟩) hbl]; exact HC.out j hlt
          have hlt' : (j : Int) < 31 := by omega
          have hj0 : (0 : Int) ≤ j := by omega
          have BR := hid (HB2.out.at hbr)
          have HN := hid (fun wx (B : MaBlock wx) => mnamed_in (maPlace0 j) j hlt wx B rfl)
          by_cases he : maPlace0 j = a1
          · obtain ⟨t, ht⟩ : ∃ t, t = maPlace0 j := ⟨_, rfl⟩
            rw [← ht] at cj HN he
            have hq2 := txt_eq t
            have HBR := hid hbr
            clear ht hbr
            subst he
            go_wp2_with fail
            refine (HN.out _ BR.out).mono ?_
            rintro e y ⟨rfl, hy⟩
            have HF := hid (HX2.out.trans ((HBR.out.trans (hy.mono hsz)).mono hsz2))
            clear hy
            go_wp2
            go_ret
            exact ⟨rfl, HF.out⟩
          · have hq2 := txt_ne he
            have HK' := hid (show ∀ l, l < j + 1 → a1 ≠ maPlace0 l from fun l hl => by
              rcases Nat.lt_or_ge l j with h | h
              · exact HK.out l h
              · obtain rfl : l = j := by omega
                exact fun e => he e.symm)
            obtain ⟨t, ht⟩ : ∃ t, t = maPlace0 j := ⟨_, rfl⟩
            rw [← ht] at cj HN hq2
            have HBR := hid hbr
            clear ht hbr he HK
            go_wp2_with fail
            refine (HN.out _ BR.out).mono ?_
            rintro e y ⟨rfl, hy⟩
            have hyz := hy.size
            have HF := hid (HBR.out.trans (hy.mono hsz))
            clear hy
            go_wp2
            go_roundw
            case rel => exact ⟨j + 1, by omega, by go_num, by omega, HF.out, HK'⟩
            case measure => simp [intOf]; omega
        · obtain rfl : j = 31 := by omega
          have BR := hid (HB2.out.at hbr)
          have NN := hid (mnamed_none a1 wr BR.out HK.out)
          have HBR := hid hbr
          clear hbr
          go_wp2_with fail
          refine NN.out.mono ?_
          rintro e y ⟨rfl, hy⟩
          have HF := hid (HX2.out.trans ((HBR.out.trans (hy.mono hsz)).mono hsz2))
          clear hy
          go_wp2
          go_ret
          exact ⟨rfl, HF.out⟩

theorem walk (a0 : Int) (a1 : ByteArray) (w : World) (w0 : (Lit.int .i64 a0).wf = true) (w1 : a1.size ≤ maxLen) (T : MaPlaces w) (B : MaBlock w) :
    Calls Tryd.prog 7 #[.int .i64 a0, .string a1] w fun e w' => e = .returned (.bool true) ∧ Below w.heap.size w w' := by
  by_cases h : a0 < 0 ∨ 30 < a0
  · exact walk_at { data := #[] } a0 a1 w T B (.inr ⟨h, rfl⟩)
  · exact walk_at (maPlace0 a0.toNat) a0 a1 w T B (.inl ⟨a0.toNat, by omega, by omega, rfl⟩)
end Go.Proofs.YtlahinefnhfifaaDoor.machPlaces
