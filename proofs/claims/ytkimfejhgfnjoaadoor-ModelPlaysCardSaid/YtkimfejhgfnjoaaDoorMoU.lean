/- model.Runnable: the runnable ones, rising. -/
import Derived.Test.YtkimfejhgfnjoaaDoorMoR
import Derived.Test.YtkimfejhgfnjoaaDoorRngI
import Derived.Test.YtkimfejhgfnjoaaDoorSame
import Derived.Test.YtkimfejhgfnjoaaDoorShelf
import Derived.Shelf.Slices.In.SortNone
import Derived.Sort.OwnSortedInts
import Derived.Maps.AppendAt
namespace Go.Proofs.YtkimfejhgfnjoaaDoor
open Go.RowKit Go.MapKept
set_option linter.unusedVariables false
set_option linter.unusedSimpArgs false
set_option maxRecDepth 20000
/-- Those below n that are runnable. -/
def rq (st : Int → Int) : Nat → List Int
  | 0 => []
  | n + 1 => rq st n ++ if st n = 1 then [(n : Int)] else []
theorem rq_mem (st : Int → Int) (a : Int) : ∀ n : Nat, a ∈ rq st n ↔ (0 ≤ a ∧ a < n) ∧ st a = 1
  | 0 => by simp [rq]; omega
  | n + 1 => by
    have ih := rq_mem st a n
    unfold rq
    rw [List.mem_append, ih]
    split
    · rename_i h
      rw [List.mem_singleton]
      constructor
      · rintro (⟨⟨h1, h2⟩, h3⟩ | rfl)
        · exact ⟨⟨h1, by omega⟩, h3⟩
        · exact ⟨⟨by omega, by omega⟩, h⟩
      · rintro ⟨⟨h1, h2⟩, h3⟩
        by_cases e : a = n
        · exact .inr e
        · exact .inl ⟨⟨h1, by omega⟩, h3⟩
    · rename_i h
      constructor
      · rintro (⟨⟨h1, h2⟩, h3⟩ | h4)
        · exact ⟨⟨h1, by omega⟩, h3⟩
        · simp at h4
      · rintro ⟨⟨h1, h2⟩, h3⟩
        refine .inl ⟨⟨h1, ?_⟩, h3⟩
        by_cases e : a = n
        · subst e; exact absurd h3 h
        · omega
theorem rq_lt (st : Int → Int) : ∀ n : Nat, (rq st n).Pairwise (· < ·)
  | 0 => List.Pairwise.nil
  | n + 1 => by
    unfold rq
    refine List.pairwise_append.2 ⟨rq_lt st n, ?_, fun a ha b hb => ?_⟩
    · split <;> simp
    · split at hb
      · rw [List.mem_singleton] at hb
        have := ((rq_mem st a n).1 ha).1.2
        omega
      · simp at hb
theorem rq_len (st : Int → Int) : ∀ n : Nat, (rq st n).length ≤ n
  | 0 => by simp [rq]
  | n + 1 => by
    have := rq_len st n
    unfold rq
    rw [List.length_append]
    split <;> simp <;> omega
theorem sorted_eq : ∀ {l l' : List Int}, l.Pairwise (· < ·) → l'.Pairwise (· ≤ ·) → l'.Nodup → (∀ a, a ∈ l ↔ a ∈ l') → l = l'
  | [], [], _, _, _, _ => rfl
  | [], b :: l', _, _, _, h => by have := (h b).2 (by simp); simp at this
  | a :: l, [], _, _, _, h => by have := (h a).1 (by simp); simp at this
  | a :: l, b :: l', h1, h2, h3, h => by
    obtain ⟨p1, p2⟩ := List.pairwise_cons.1 h1
    obtain ⟨q1, q2⟩ := List.pairwise_cons.1 h2
    obtain ⟨r1, r2⟩ := List.nodup_cons.1 h3
    have e : a = b := by
      rcases List.mem_cons.1 ((h a).1 (by simp)) with e | e
      · exact e
      · rcases List.mem_cons.1 ((h b).2 (by simp)) with e2 | e2
        · exact e2.symm
        · have := q1 a e; have := p1 b e2; omega
    subst e
    congr 1
    refine sorted_eq p2 q2 r2 fun x => ?_
    constructor
    · intro hx
      rcases List.mem_cons.1 ((h x).1 (by simp [hx])) with e | e
      · have := p1 x hx; omega
      · exact e
    · intro hx
      rcases List.mem_cons.1 ((h x).2 (by simp [hx])) with e | e
      · subst e; exact absurd hx r1
      · exact e
theorem merge_rq {st : Int → Int} {n : Nat} {xs : List Int} (hn : xs.Nodup) (hm : ∀ a, a ∈ xs ↔ a ∈ rq st n) : (xs.mergeSort fun x y => decide (x ≤ y)) = rq st n := by
  have hp := List.mergeSort_perm xs fun x y => decide (x ≤ y)
  refine (sorted_eq (rq_lt st n) ?_ (hp.nodup_iff.2 hn) (fun a => (hm a).symm.trans hp.mem_iff.symm)).symm
  have := List.pairwise_mergeSort (le := fun x y : Int => decide (x ≤ y)) (fun a b c h1 h2 => by simp only [decide_eq_true_eq] at *; omega) (fun a b => by simp only [Bool.or_eq_true, decide_eq_true_eq]; omega) xs
  exact this.imp (fun h => by simpa using h)
/-- The loop's round. -/
structure Ru (w : World) (b1 n : Nat) (g : Int → Option Value) (s : Ms) (v : Value) (xs : List Int) (left : Int → Bool) (cnt : Nat) (wr : World) : Prop where
  it : RgI wr b1 w.heap.size .i64 g n left cnt
  own : Owns wr (w.heap.size + 1) v xs
  bl : Below w.heap.size w wr
  mem : ∀ a, a ∈ xs ↔ ((g a).isSome = true ∧ left a = false ∧ s.st a = 1)
  nd : xs.Nodup
theorem Owns.keptR {w w' : World} {base : Nat} {v : Value} {xs : List Int} (h : Owns w base v xs) (hb : ∀ k, base ≤ k → k < w.heap.size → w'.heap[k]? = w.heap[k]?) : Owns w' base v xs := by
  obtain ⟨h0, ⟨h1, h2⟩ | ⟨g, cap, cur, h1, h2, h3, h4⟩⟩ := h
  · exact ⟨h0, .inl ⟨h1, h2⟩⟩
  · have hg : g < w.heap.size := (Array.getElem?_eq_some_iff.1 h3).1
    exact ⟨h0, .inr ⟨g, cap, cur, h1, h2, (hb g h2 hg).trans h3, h4⟩⟩
theorem few_len {xs : List Int} {G : Nat} (hn : xs.Nodup) (hx : ∀ a ∈ xs, 0 ≤ a ∧ a < G) : xs.length ≤ G := few G xs hn hx
set_option maxHeartbeats 8000000 in
theorem mrunnable {w : World} {lo hi b : Nat} {s : Ms} (h : Mdl w lo hi b s) (G : Nat) (hG : G ≤ 1000) (hst : ∀ a, s.st a = 1 → 0 ≤ a ∧ a < G) :
    Calls Tryd.prog 15 #[.pointer (some ⟨b, 0, none⟩)] w fun e w' => ∃ v, e = .returned v ∧ Owns w' w.heap.size v (rq s.st G) ∧ Below w.heap.size w w' := by
  obtain ⟨b1, b2, b3, hm, hp⟩ := h
  have c3 := cell_md hm.box (show #[Value.int .i64 s.P, .int .i64 s.M, .int .i64 s.G, .map (some b1), .map (some b2), .map (some b3)][3]? = some (.map (some b1)) from rfl)
  obtain ⟨g, n, hg, hv⟩ := hm.m1
  obtain ⟨o, hrg, I0⟩ := RgI.start (P := Tryd.prog) (t := 52) hg und1
  have HV := hid hv
  have HST := hid hst
  have hb1 := hg.lt
  have RU0 := hid (show Ru w b1 n g s (.slice none 0 0) [] (fun a => (g a).isSome) n (w.alloc o) from ⟨I0, World.ownsRow_nil _ _ _ _, bl_ad w o, fun a => (by simp; intro h1 h2; rw [h2] at h1; cases h1), List.nodup_nil⟩)
  obtain ⟨i0, hi, hz0, hz1, hz2⟩ := info_parts infoInt
  have HI := hid (And.intro hi (And.intro hz0 (And.intro hz1 hz2)))
  have SO := hid (fun blk off cap zs w h1 h2 h3 => Any.slices_Sort_int Tryd.laysSort blk off cap zs w h1 h2 h3)
  have SN := hid (fun p cap w => Any.slices_Sort_int_none Tryd.laysSort p cap w)
  clear hg hv I0 hm hp hst hi hz0 hz1 hz2
  go_enter Tryd.func15, Tryd.ntmps15
  go_wp2_with fail
  generalize w.alloc o = w0 at *
  go_loopw [3] (fun v3 wr => ∃ (xs : List Int) (left : Int → Bool) (cnt : Nat), Hid (Ru w b1 n g s v3 xs left cnt wr)) (fun _ wr => leftI wr b1 w.heap.size)
  case atStart => exact ⟨_, _, _, RU0⟩
  case round =>
    clear RU0 c3
    obtain ⟨xs, left, cnt, R⟩ := hrel
    have ml := hid (R.out.it.left_eq)
    rcases R.out.it.next (P := Tryd.prog) with ⟨h0, hl, hrun⟩ | ⟨a, v, w', cnt', h1, h2, hrun, hI, hc, ho, hent⟩
    · have hx : ∀ x, x ∈ xs ↔ x ∈ rq s.st G := fun x => by
        rw [R.out.mem x, rq_mem]
        constructor
        · rintro ⟨_, _, h3⟩; exact ⟨HST.out x h3, h3⟩
        · rintro ⟨_, h3⟩
          refine ⟨?_, hl x, h3⟩
          rcases HV.out x with e | ⟨_, e⟩
          · rw [e]; rfl
          · omega
      have hln : xs.length ≤ G := few_len R.out.nd (fun x hx' => HST.out x ((R.out.mem x).1 hx').2.2)
      have MS := hid (merge_rq R.out.nd hx)
      have hperm : (rq s.st G).length = xs.length := by
        rw [← MS.out]
        exact (List.mergeSort_perm xs _).length_eq
      have HP := hid hperm
      have own := R.out.own
      have BL := hid R.out.bl
      rcases own with ⟨h9, ⟨rfl, h8⟩ | ⟨q, cap, cur, rfl, q2, q3, q4, q5, q6, q7⟩⟩
      · have hnil : rq s.st G = [] := List.length_eq_zero_iff.1 (by rw [hperm]; omega)
        have OF := hid (show Owns wr w.heap.size (.slice none 0 0) (rq s.st G) by rw [hnil]; exact World.ownsRow_nil _ _ _ _)
        have S0 := hid (SN.out none 0 wr)
        clear R ml hperm hnil hx hl hln
        go_wp2_with fail
        refine S0.out.mono ?_
        rintro e w2 ⟨rfl, rfl⟩
        go_wp2
        go_ret
        exact ⟨_, rfl, OF.out, BL.out⟩
      · have hH := Go.holds_of_blockI (ss := xs) q3 (by rw [Nat.mul_one] at q7; exact q7)
        have hq := (Array.getElem?_eq_some_iff.1 q3).1
        have S0 := hid (SO.out q 0 cap xs wr hH hq (by omega))
        have FIN : Hid (∀ w2, (∃ n os, w2 = Sort.grow (Sort.putRow (Value.int .i64) (Sort.ahead wr n) q 0 (xs.mergeSort fun x y => decide (x ≤ y)).toArray) os) → Owns w2 w.heap.size (.slice (some ⟨q, 0, none⟩) xs.length cap) (rq s.st G) ∧ Below w.heap.size w w2) := hid (fun w2 ⟨n, os, e⟩ => by
          rw [MS.out] at e
          subst e
          refine ⟨?_, BL.out.grown (Go.grownBy_sortedI (n := n) (os := os) _) BL.out.size (fun k hk => by cases hk; omega)⟩
          have := Go.ownsRow_sortedI (base := w.heap.size) (n := n) (os := os) (ts := rq s.st G) (ss := xs) HP.out (by omega) q3 q4 q5 q6
          unfold Owns
          rw [HP.out]
          exact this)
        clear R ml hperm hx hl hln hH q2 q3 q4 q5 q6 q7 h9 MS HP
        go_wp2_with fail
        refine S0.out.mono ?_
        rintro e w2 ⟨rfl, hE⟩
        have FF := hid (FIN.out w2 hE)
        clear hE FIN
        go_wp2
        go_ret
        exact ⟨_, rfl, FF.out.1, FF.out.2⟩
    · obtain rfl : v = .int .u64 (s.st a) := by
        rcases HV.out a with e | ⟨e, _⟩
        · rw [h2] at e; exact Option.some.inj e
        · rw [h2] at e; cases e
      have BL2 := hid (show Below w.heap.size w w' from R.out.bl.trans (ho.below (Nat.le_refl _) (Nat.le_refl _) R.out.bl.size))
      have OW2 := hid (show Owns w' (w.heap.size + 1) _ xs from R.out.own.keptR (fun k h1 h2 => ho.block k h2 (by omega) (by omega)))
      have HI2 := hid hI
      have H1 := hid h1
      have H2 := hid h2
      have hmu := hid (hI.left_eq)
      have HC := hid hc
      clear hI ho h1 h2 hc
      by_cases hs : s.st a = 1
      · have hln : xs.length ≤ G := few_len R.out.nd (fun x hx => HST.out x ((R.out.mem x).1 hx).2.2)
        have R2 := hid (show (∀ x, x ∈ xs ++ [a] ↔ ((g x).isSome = true ∧ strike left a x = false ∧ s.st x = 1)) ∧ (xs ++ [a]).Nodup from by
          have hna : a ∉ xs := fun hx => by have := ((R.out.mem a).1 hx).2.1; rw [H1.out] at this; cases this
          refine ⟨fun x => ?_, ?_⟩
          · rw [List.mem_append, List.mem_singleton, R.out.mem x]
            unfold strike
            by_cases hx : x = a
            · subst hx; simp [hs, H2.out]
            · simp [hx]
          · rw [List.nodup_append]
            refine ⟨R.out.nd, by simp, fun x hx y hy => ?_⟩
            rw [List.mem_singleton] at hy
            subst hy
            exact fun e => hna (e ▸ hx))
        have hsz := hid (show w.heap.size + 1 ≤ w'.heap.size by have := HI2.out.lt.2.1; omega)
        obtain ⟨j, hj⟩ : ∃ j, j = xs.length := ⟨_, rfl⟩
        have HJ := hid hj
        have hO4 := hid (show (w'.alloc (.cells #[.int .i64 a] 3)).ownsRow (w.heap.size + 1) 3 1 _ j (xs.map (Value.int .i64)) from by rw [hj]; exact World.ownsRow.alloc OW2.out (.cells #[.int .i64 a] 3))
        have NW := hid (World.news_of_block (cs := #[.int .i64 a]) (t := 3) (fr := (0, 0)) (heap_alloc_new w' (.cells #[.int .i64 a] 3)))
        have OWL := hid (World.ownsRow.lt hO4.out)
        have I4 := hid (show RgI (w'.alloc (.cells #[.int .i64 a] 3)) b1 w.heap.size .i64 g n (strike left a) cnt' from HI2.out.kept (Below.heap_alloc _ _ _ HI2.out.lt.1) (Below.heap_alloc _ _ _ HI2.out.lt.2.1))
        have B4 := hid (BL2.out.alloc BL2.out.size (.cells #[.int .i64 a] 3))
        have HA := hid (show w'.heap.size < (w'.alloc (.cells #[.int .i64 a] 3)).heap.size by simp)
        rw [← hj] at hln
        clear R OW2 BL2 HI2 H1 H2 hj
        go_wp2_with (at_builtin; refine wpList_append_own _ rfl _ _ 39 rfl (w.heap.size + 1) 3 i0 (.int .i64 0) 1 8 Tryd.underlying39 HI.out.1 HI.out.2.1 HI.out.2.2.1 HI.out.2.2.2 rfl (by decide) _ _ _ rfl hO4.out ⟨w'.heap.size, 0, none⟩ 1 1 [.int .i64 a] rfl rfl NW.out (by intro u hu; simp only [List.mem_singleton] at hu; subst hu; rfl) (by unfold maxLen; omega) (by omega) (by have := hsz.out; have := HA.out; omega) ?_)
        intro v' w6 hown6 hgrow _
        have R6 := hid (show Ru w b1 n g s v' (xs ++ [a]) (strike left a) cnt' w6 from ⟨I4.out.kept (hgrow.block _ I4.out.lt.1 (fun e => by have := (OWL.out _ e.symm).1; have := hb1; omega)) (hgrow.block _ I4.out.lt.2.1 (fun e => by have := (OWL.out _ e.symm).1; omega)), by
          unfold Owns
          rw [List.length_append, List.map_append, ← HJ.out]
          exact hown6, B4.out.grown hgrow (B4.out.size) (fun q hq => by have := (OWL.out q hq).1; omega), R2.out.1, R2.out.2⟩)
        have hm6 := hid (R6.out.it.left_eq)
        clear hown6 hgrow hO4 OWL I4 B4 NW R2
        go_wp2
        go_roundw
        case rel => exact ⟨_, _, _, R6⟩
        case measure => rw [hm6.out, ml.out]; exact HC.out
      · have hs2 : (s.st a == 1) = false := by simpa using hs
        have R2 := hid (show Ru w b1 n g s _ xs (strike left a) cnt' w' from ⟨HI2.out, OW2.out, BL2.out, fun x => by
          rw [R.out.mem x]
          unfold strike
          by_cases hx : x = a
          · subst hx; simp [hs]
          · simp [hx], R.out.nd⟩)
        clear R OW2 BL2 HI2
        go_wp2
        go_roundw
        case rel => exact ⟨xs, _, _, R2⟩
        case measure => rw [hmu.out, ml.out]; exact HC.out
end Go.Proofs.YtkimfejhgfnjoaaDoor
