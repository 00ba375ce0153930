/- What other texts are built of: Ring5, TabMa. -/
import Derived.Test.YtopidlcifaenjaaGreatDoorPre1
import Derived.Deep.RegionWith
import Derived.Deep.RegionHeld3
import Derived.Deep.AppendLies
import Derived.IntWalk
/-! The contracts of package ring, continued: New, PutAll, List; the law's row. -/
namespace Go.Proofs.YtopidlcifaenjaaGreatDoor
set_option linter.unusedVariables false
set_option linter.unusedSimpArgs false
open Go.RowKit

/-- A new ring. -/
def RNew (w : World) (e : Ending) (w' : World) : Prop := ∃ p, e = .returned (.pointer (some ⟨p, 0, none⟩)) ∧ Rg w' p [] 0 false 0 ∧ w.heap.size ≤ p ∧ Below w.heap.size w w'
theorem get_rep (n : Nat) (v : Value) (l : List Value) : (∀ i, i < n → (List.replicate n v ++ l).toArray[i]? = some v) ∧ ∀ i, (List.replicate n v ++ l).toArray[n + i]? = l[i]? := by
  refine ⟨fun i hi => ?_, fun i => ?_⟩
  · rw [List.getElem?_toArray, List.getElem?_append_left (by simp; omega), List.getElem?_replicate, if_pos hi]
  · rw [List.getElem?_toArray, List.getElem?_append_right (by simp)]
    simp
theorem zero_is : Tryz.zeroCells220 = (List.replicate 256 (Value.int .i64 0) ++ ([.int .i64 0, .int .i64 0, .int .i64 0, .bool false, .int .i64 0] : List Value)).toArray := by kernel_rfl
theorem rg_zero (w : World) : Rg (w.alloc (.cells Tryz.zeroCells220 220)) w.heap.size [] 0 false 0 := by
  rw [zero_is]
  exact ⟨⟨fun _ => 0, 0, ⟨⟨_, Deep.blk_alloc_new _ _, (get_rep _ _ _).1, (get_rep 256 _ _).2 0, (get_rep 256 _ _).2 1, (get_rep 256 _ _).2 2, (get_rep 256 _ _).2 3, (get_rep 256 _ _).2 4⟩, by omega, by simp, fun cs t fr hc => by
    rw [Deep.blk_alloc_new] at hc
    simp only [Option.some.injEq, Obj.cells.injEq] at hc
    rw [← hc.1, List.size_toArray, List.length_append, List.length_replicate]; rfl⟩, fun i h => by simp at h⟩⟩
set_option maxRecDepth 100000 in
set_option maxHeartbeats 1000000 in
theorem new_r (w : World) : Calls Tryz.prog 95 #[] w (RNew w) := by
  go_enter Tryz.func95, Tryz.ntmps95
  go_wp2
  go_ret
  exact ⟨w.heap.size, rfl, rg_zero w, Nat.le_refl _, (Below.refl _ _).alloc (Nat.le_refl _) _⟩

/-- The law's row of numbers. -/
def row6L (f : Int) (n : Nat) : List Int := (List.range n).map fun (i : Nat) => f + (i : Int)
theorem row6_succ (f : Int) (n : Nat) : row6L f (n + 1) = row6L f n ++ [f + (n : Int)] := by simp [row6L, List.range_succ]
theorem row6_length (f : Int) (n : Nat) : (row6L f n).length = n := by simp [row6L]
theorem row6_fin {w wr : World} {f : Int} {k : Nat} {v : Value} (h : wr.ownsRow w.heap.size 3 1 v k ((row6L f k).map (Value.int .i64))) (hb : Below w.heap.size w wr) : ClonePost (row6L f k) w (.returned v) wr :=
  ⟨_, rfl, by unfold Owns; rw [row6_length]; exact h, hb⟩
set_option maxHeartbeats 4000000 in
theorem putall_r (p : Nat) (xs ys : List Int) (v : Value) (nx : Int) (hs : Bool) (st : Int) (w : World) (H : Rg w p xs nx hs st) (hy : Stay w p none v ys) (hyl : ys.length ≤ 100000) :
    Calls Tryz.prog 211 #[.pointer (some ⟨p, 0, none⟩), v] w (RTold p (ys.drop (256 - xs.length)) (xs ++ ys.take (256 - xs.length)) nx hs st w) := by
  obtain ⟨a1, c1, rfl, hcap, _⟩ := hy.rd
  obtain ⟨n, hn⟩ : ∃ n, n = ys.length := ⟨_, rfl⟩
  have hle := H.le
  have HN := hid hn
  have HY := hid hy
  have HR := hid H
  have hcm := hcap.2.1
  unfold maxLen at hcm
  have hcm2 := hcm
  have hnc := hcap.1
  rw [← hn] at hyl HY hnc ⊢
  obtain ⟨l, hl⟩ : ∃ l, l = xs.length := ⟨_, rfl⟩
  have HL := hid hl
  rw [← hl] at hle
  rw [← hl]
  clear H hy hn hcap hl
  go_enter Tryz.func211, Tryz.ntmps211
  go_wp2_with fail
  go_loopw [9] (fun i wr => ∃ (j : Nat), j ≤ n ∧ l + j ≤ 256 ∧ i = .int .i64 j ∧ Hid (Rg wr p (xs ++ ys.take j) nx hs st) ∧ Hid (OnlyO p none w wr))
    (fun i _ => n - (intOf i).toNat)
  case atStart => exact ⟨0, by omega, by omega, rfl, hid (by simpa using HR.out), hid (OnlyO.refl _ _ _)⟩
  case round =>
    obtain ⟨j, hj, hlj, rfl, HRr, HX⟩ := hrel
    have HJL := hid (show (xs ++ ys.take j).length = l + j by rw [List.length_append, List.length_take, ← HL.out, ← HN.out]; omega)
    by_cases hlt : j < n
    · have hjy : j < ys.length := by rw [← HN.out]; exact hlt
      obtain ⟨a', c', he, _, hrd⟩ := (HY.out.only HX.out).rd
      simp only [Value.slice.injEq] at he
      obtain ⟨g, o, h2, h3, h4⟩ := hrd (by omega)
      have he1 := he.1
      rw [h2] at he1
      clear he h2
      subst he1
      obtain ⟨y, hy⟩ : ∃ y, y = ys.getD j 0 := ⟨_, rfl⟩
      have q1 := h4 j hjy
      rw [← hy] at q1
      have HT := hid (lst_take_snoc ys j hjy)
      rw [← hy] at HT
      clear hy h4 hrd hjy
      by_cases hfull : l + j = 256
      · have C := hid (push_full p (xs ++ ys.take j) nx hs st y wr HRr.out (by rw [HJL.out]; exact hfull))
        have hjl : j = 256 - l := by omega
        have HRD : Hid (Reads wr (.slice (some ⟨g, o + j, none⟩) (n - j) (c1 - j)) (ys.drop j)) := by
          obtain ⟨a', c', he, hcc, hrd⟩ := (HY.out.only HX.out).rd
          simp only [Value.slice.injEq] at he
          have hlen : (ys.drop j).length = n - j := by rw [List.length_drop, ← HN.out]
          refine ⟨some ⟨g, o + j, none⟩, c1 - j, by rw [hlen], ⟨by rw [hlen]; omega, by unfold maxLen; omega, .inr ⟨_, rfl⟩⟩, fun hp => ?_⟩
          obtain ⟨g', o', h2, h3, h4⟩ := hrd (by have := HN.out; omega)
          rw [← he.1] at h2
          simp only [Option.some.injEq, Addr.mk.injEq] at h2
          obtain ⟨rfl, rfl, _⟩ := h2
          refine ⟨g, o + j, rfl, h3, fun i hi => ?_⟩
          rw [hlen] at hi
          have := h4 (j + i) (by have := HN.out; omega)
          rw [Nat.add_assoc, this]
          simp [List.getD_eq_getElem?_getD]
        obtain ⟨i0, hi, hz0, hz1, hz2⟩ := info_parts infoInt
        have HI := hid hi
        have HZ0 := hid hz0
        have HZ1 := hid hz1
        have HZ2 := hid hz2
        have B1 := hid (show 0 + (ys.drop j).length ≤ maxLen by rw [List.length_drop]; have := HN.out; unfold maxLen; omega)
        have B2 := hid (show (0 + (ys.drop j).length) * 8 ≤ 140737488355328 by rw [List.length_drop]; have := HN.out; omega)
        have B3 := hid HX.out.size
        have HJE := hid hjl
        have hjc : j < c1 := by omega
        clear hi hz0 hz1 hz2 hjl hfull h3
        go_wp2_with fail
        refine C.out.mono ?_
        rintro e w2 ⟨rfl, rfl⟩
        go_wp2_with (with_reducible refine wpList_append_reads rfl (.const (.slice none 0 0)) (.tmp 20) 54 rfl w.heap.size 3 i0 (.int .i64 0) 8 Tryz.underlying54 HI.out HZ0.out HZ1.out HZ2.out (by decide) (.slice none 0 0) 0 [] rfl (World.ownsRow_nil _ _ _ _) (ys.drop j) (.slice (some ⟨g, o + j, none⟩) (n - j) (c1 - j)) rfl HRD.out B1.out B2.out B3.out ?_)
        intro v6 w6 hown6 hgr6 _
        have ho6 : Owns w6 w.heap.size v6 (ys.drop j) := by unfold Owns; simpa using hown6
        have hpl := HRr.out.lt
        have hb6 : Below w.heap.size wr w6 := (Below.refl w.heap.size wr).grown hgr6 HX.out.size (fun q hq => by simp [Value.ownBlock] at hq)
        have FIN : Hid (RTold p (ys.drop (256 - l)) (xs ++ ys.take (256 - l)) nx hs st w (.returned v6) w6) := by
          rw [← HJE.out]
          exact ⟨_, rfl, ho6, HRr.out.kept (hgr6.block p hpl (by simp [Value.ownBlock])), HX.out.beyond hb6⟩
        obtain ⟨va, vm, vc, rfl⟩ := ho6.slice3
        clear hown6 hgr6 ho6 hb6 hpl
        go_wp2
        go_ret
        exact FIN.out
      · have C := hid (push_any p (xs ++ ys.take j) nx hs st y wr HRr.out (by rw [HJL.out]; omega))
        have hlj1 : l + (j + 1) ≤ 256 := by omega
        clear hfull
        go_wp2_with fail
        refine C.out.mono ?_
        rintro e w2 ⟨rfl, hr2, hx2⟩
        have HR2 := hid (show Rg w2 p (xs ++ ys.take (j + 1)) nx hs st by rw [HT.out, ← List.append_assoc]; exact hr2)
        have HX2 := hid (HX.out.trans hx2 (.inl rfl))
        clear hr2 hx2
        go_wp2
        go_roundw
        case rel => exact ⟨j + 1, by omega, hlj1, by go_num, HR2, HX2⟩
        case measure => simp [intOf]; omega
    · obtain rfl : j = n := by omega
      have FIN : Hid (RTold p (ys.drop (256 - l)) (xs ++ ys.take (256 - l)) nx hs st w (.returned (.slice none 0 0)) wr) := by
        have e1 : ys.drop (256 - l) = [] := List.drop_eq_nil_of_le (by rw [← HN.out]; omega)
        have e2 : ys.take (256 - l) = ys.take j := by rw [List.take_of_length_le (by rw [← HN.out]; omega), List.take_of_length_le (by rw [← HN.out]; exact Nat.le_refl _)]
        rw [e1, e2]
        exact ⟨_, rfl, owns_nil _ _, HRr.out, HX.out⟩
      go_wp2
      go_ret
      exact FIN.out

/-- What List tells. -/
def allL (xs : List Int) (nx : Int) (hs : Bool) : List Int := if hs then xs ++ [nx] else xs
set_option maxHeartbeats 4000000 in
theorem list_r (p : Nat) (xs : List Int) (nx : Int) (hs : Bool) (st : Int) (w : World) (H : Rg w p xs nx hs st) :
    Calls Tryz.prog 108 #[.pointer (some ⟨p, 0, none⟩)] w (ClonePost (allL xs nx hs) w) := by
  obtain ⟨A, h, H0, hx⟩ := H.ex
  have hle := H.le
  have hplt := H.lt
  have hh := H0.hh
  obtain ⟨n, hne⟩ : ∃ n, n = xs.length := ⟨_, rfl⟩
  obtain ⟨s, hs1⟩ : ∃ s : Nat, s = n + (if hs then 1 else 0) := ⟨_, rfl⟩
  have hsb : s ≤ 257 := by cases hs <;> simp at hs1 <;> omega
  have hsn : n ≤ s := by omega
  have C := hid (len_r p xs nx hs st w H s (by rw [hs1, ← hne]; cases hs <;> simp))
  have H1 := hid H0
  have HX := hid hx
  have HN := hid hne
  obtain ⟨i0, hi, hz0, hz1, hz2⟩ := info_parts infoInt
  have HI := hid hi
  have HZ0 := hid hz0
  have HZ1 := hid hz1
  have HZ2 := hid hz2
  have HBY := hid (show (i0.bytes : Int) * (s : Int) ≤ 281474976710656 by rw [hz2]; omega)
  rw [← hne] at hle
  clear H H0 hx hne hi hz0 hz1 hz2 hs1
  go_enter Tryz.func108, Tryz.ntmps108
  go_wp2_with fail
  refine C.out.mono ?_
  rintro e w2 ⟨rfl, rfl⟩
  have H2 := hid (H1.out.kept (w' := w.alloc (.cells (madeCells (Value.cells (.int .i64 0)) s) 3)) (Below.heap_alloc _ _ _ hplt))
  have k257 := H2.out.c257
  rw [← HN.out] at k257
  have k257' : (w.alloc (.cells (madeCells #[.int .i64 0] s) 3)).cell? ⟨p, 257, none⟩ = some (.int .i64 n) := k257
  clear k257
  go_wp2_with (with_reducible refine wpList_make_lc _ rfl (.const (.int .i64 0)) (.tmp 6) 54 rfl 3 i0 (.int .i64 0) Tryz.underlying54 HI.out HZ0.out HZ1.out .i64 .i64 0 (s : Int) 0 s rfl rfl rfl rfl (by omega) HBY.out (by omega) ?_)
  have hm0 : Owns (w.alloc (.cells (madeCells (Value.cells (.int .i64 0)) s) 3)) w.heap.size (.slice (some ⟨w.heap.size, 0, none⟩) 0 s) [] := owns_made w w.heap.size 0 s (Nat.le_refl _) (by omega) (by unfold maxLen; omega)
  have HM := hid (show (w.alloc (.cells (madeCells (Value.cells (.int .i64 0)) s) 3)).ownsRow w.heap.size 3 1 (.slice (some ⟨w.heap.size, 0, none⟩) 0 s) 0 (([] : List Int).map (Value.int .i64)) from hm0)
  have HB := hid ((Below.refl w.heap.size w).alloc (Nat.le_refl _) (.cells (madeCells (Value.cells (.int .i64 0)) s) 3))
  clear hm0
  go_wp2_with fail
  go_loopw [3, 12] (fun v i wr => ∃ (j : Nat), j ≤ n ∧ i = .int .i64 j ∧ wr.ownsRow w.heap.size 3 1 v j ((xs.take j).map (Value.int .i64)) ∧ Below w.heap.size w wr)
    (fun _ i _ => n - (intOf i).toNat)
  case atStart => exact ⟨0, by omega, rfl, HM.out, HB.out⟩
  case round =>
    obtain ⟨j, hj, rfl, hown, hbr⟩ := hrel
    obtain ⟨va, vc, rfl⟩ := ownsRow_slice hown
    have hsz := hbr.size
    have HRr := hid (H1.out.kept (w' := wr) (hbr.block p hplt))
    by_cases hlt : j < n
    · have hjx : j < xs.length := by rw [← HN.out]; exact hlt
      obtain ⟨m, hm⟩ : ∃ m, m = (h + j) % 256 := ⟨_, rfl⟩
      have hmi : ((h : Int) + j).tmod 256 = m := by rw [Int.tmod_eq_emod_of_nonneg (by omega)]; omega
      have hwr : IntKind.i64.wrap ((h : Int) + j) = (h : Int) + j := IntWalk.i64_in _ (by omega)
      have hmw : IntKind.i64.wrap (m : Int) = m := IntWalk.i64_in _ (by omega)
      have hm256 : m < 256 := by omega
      have hmj : ((h : Int) + j) % 256 = m := by omega
      have h0m : (0 : Int) ≤ (m : Int) := by omega
      have h1m : (m : Int) < 256 := by omega
      obtain ⟨x, hxe⟩ : ∃ x, x = xs.getD j 0 := ⟨_, rfl⟩
      have d1 := HRr.out.c256
      have d2 := HRr.out.cell m hm256
      have hxA : A m = x := by rw [hxe, HX.out j hjx, hm]
      rw [hxA] at d2
      have HT := hid (lst_take_snoc xs j hjx)
      rw [← hxe] at HT
      have hpo : (Value.slice va j vc).ownBlock ≠ some p := fun e => by have := (World.ownsRow.lt hown p e).1; omega
      have hB1 : j + 1 ≤ maxLen := by unfold maxLen; omega
      have hB2 : (j + 1) * 8 ≤ 140737488355328 := by omega
      have holt := World.ownsRow.lt hown
      have hlp : p < wr.heap.size := by omega
      obtain ⟨i0, hi, hz0, hz1, hz2⟩ := info_parts infoInt
      clear hm hxe hxA hjx k257' C HM HB HRr
      go_wp2_with fail
      go_region_held3 (fun w' => w'.cell? ⟨p, 256, none⟩ = some (.int .i64 h) ∧ w'.cell? ⟨p, m, none⟩ = some (.int .i64 x))
        (first
          | go_keep
          | (go_split_ands
             refine ⟨?_, ?_⟩
             · (rw [hgrow.cell_far _ (by simp; omega) (Ne.symm hpo)]; assumption)
             · (rw [hgrow.cell_far _ (by simp; omega) (Ne.symm hpo)]; assumption)))
        ((refine step_append_lies _ (by rfl) _ _ _ (by rfl) w.heap.size 3 i0 _ 1 8 Tryz.underlying54 hi hz0 hz1 hz2 rfl (by omega) _ j _ (by rfl) ((hown.alloc _).drew)
            ⟨wr.heap.size, 0, none⟩ 1 1 [.int .i64 x] (by rfl) (by rfl) (World.news_of_block (cs := #[.int .i64 x]) (t := 3) (fr := (0, 0)) (heap_alloc_new wr _)) (by simp [Value.oneCell'])
            (by omega) hB1 hB2 (by simp; omega) (wr.heap.size + 1) (by simp) ?_; intro gg cap w1 hown1 hgrow hat hlt1))
      have hown7 : w1.ownsRow w.heap.size 3 1 (.slice (some ⟨gg, 0, none⟩) (j + 1) cap) (j + 1) ((xs.take (j + 1)).map (Value.int .i64)) := by
        rw [HT.out, List.map_append]; exact hown1
      have hb1 : Below w.heap.size w w1 := ((hbr.alloc hsz (.cells #[.int .i64 x] 3)).trans (Quiet.below ⟨1, rfl⟩ _)).grown hgrow (by simp; omega) (fun q hq => (holt q hq).1)
      clear hown1 hgrow hat hlt1 holt hown hi hz0 hz1 hz2 hwr hmw hmi hmj
      go_wp2
      go_roundw
      case rel => exact ⟨j + 1, by omega, by go_num, hown7, hb1⟩
      case measure => simp [intOf]; omega
    · obtain rfl : j = n := by omega
      have e0 : xs.take j = xs := List.take_of_length_le (by rw [← HN.out]; exact Nat.le_refl _)
      rw [e0] at hown
      have k258 := HRr.out.c258
      have k259 := HRr.out.c259
      cases hs
      · have FIN := hid (clone_fin hown HN.out.symm hbr)
        clear hown e0 k257' C HM HB HRr
        go_wp2
        go_ret
        exact FIN.out
      · have HO := hid (hown.alloc (.cells #[.int .i64 nx] 3))
        have B1 := hid (show j + 1 ≤ maxLen by unfold maxLen; omega)
        have B2 := hid (show (j + 1) * 8 ≤ 140737488355328 by omega)
        have B3 := hid (show w.heap.size ≤ (wr.alloc (.cells #[.int .i64 nx] 3)).heap.size by simp; omega)
        clear hown e0 k257' C HM HB HRr
        go_wp2_with (at_builtin; refine wpList_append_own_at _ rfl _ _ 54 rfl w.heap.size 3 i0 (.int .i64 0) 1 8 Tryz.underlying54 HI.out HZ0.out HZ1.out HZ2.out rfl (by decide) _ _ _ rfl HO.out ⟨wr.heap.size, 0, none⟩ 1 1 [.int .i64 nx] rfl rfl (cell_one_new _ _ _) (ones_of [nx]) B1.out B2.out B3.out ?_)
        intro v' w6 hown6 hgrow _ _
        have hlt6 := HO.out.lt
        have FIN := hid (clone_fin (l := xs ++ [nx]) (k := j + 1) (w := w) (wr := w6) (v := v') (by simpa using hown6) (by rw [List.length_append, ← HN.out]; rfl) ((hbr.alloc hsz _).grown hgrow (by simp; omega) (fun q hq => (hlt6 q hq).1)))
        obtain ⟨va', vc', rfl⟩ := ownsRow_slice hown6
        clear hown6 hgrow hlt6
        go_wp2
        go_ret
        exact FIN.out

/-- A copy of a ring: the same cells in a new block. -/
theorem Rg.copied {w w2 : World} {p : Nat} {xs : List Int} {nx : Int} {hs : Bool} {st : Int} (H : Rg w p xs nx hs st) {cs : Array Value} (h : w.heap[p]? = some (.cells cs 220 (0, 0))) : Rg (w2.alloc (.cells cs 220)) w2.heap.size xs nx hs st := by
  obtain ⟨A, k, H0, hx⟩ := H.ex
  obtain ⟨cs', h1, h2⟩ := H0.blk
  rw [h] at h1
  simp only [Option.some.injEq, Obj.cells.injEq, and_true] at h1
  subst h1
  exact ⟨A, k, ⟨⟨cs, Deep.blk_alloc_new _ _, h2⟩, H0.hh, H0.hn, fun c t fr hc => by
    rw [Deep.blk_alloc_new] at hc
    simp only [Option.some.injEq, Obj.cells.injEq] at hc
    rw [← hc.1]; exact H0.sz _ _ _ h⟩, hx⟩
theorem Rg.cells {w : World} {p : Nat} {xs : List Int} {nx : Int} {hs : Bool} {st : Int} (H : Rg w p xs nx hs st) : ∃ cs, w.heap[p]? = some (.cells cs 220 (0, 0)) ∧ cs.size = 261 ∧ cs.all (·.oneCell') = true := by
  obtain ⟨A, k, H0, hx⟩ := H.ex
  obtain ⟨cs, h1, h2, h3, h4, h5, h6, h7⟩ := H0.blk
  have hz := H0.sz _ _ _ h1
  refine ⟨cs, h1, hz, ?_⟩
  rw [Array.all_eq_true]
  intro i hi
  have hc : cs[i]? = some cs[i] := Array.getElem?_eq_getElem hi
  rcases Nat.lt_or_ge i 256 with h | h
  · rw [h2 i h] at hc
    simp only [Option.some.injEq] at hc
    rw [← hc]; rfl
  · obtain rfl | rfl | rfl | rfl | rfl : i = 256 ∨ i = 257 ∨ i = 258 ∨ i = 259 ∨ i = 260 := by omega
    all_goals
      first
        | (rw [h3] at hc; simp only [Option.some.injEq] at hc; rw [← hc]; rfl)
        | (rw [h4] at hc; simp only [Option.some.injEq] at hc; rw [← hc]; rfl)
        | (rw [h5] at hc; simp only [Option.some.injEq] at hc; rw [← hc]; rfl)
        | (rw [h6] at hc; simp only [Option.some.injEq] at hc; rw [← hc]; rfl)
        | (rw [h7] at hc; simp only [Option.some.injEq] at hc; rw [← hc]; rfl)
end Go.Proofs.YtopidlcifaenjaaGreatDoor
/-! The table of places. -/
namespace Go.Proofs.YtopidlcifaenjaaGreatDoor
set_option linter.unusedVariables false
set_option linter.unusedSimpArgs false
set_option maxRecDepth 100000
open Go.RowKit

def maPlace0 : Nat → ByteArray
  | 0 => { data := #[101, 120, 101, 99] }
  | 1 => { data := #[115, 99, 104, 101, 100] }
  | 2 => { data := #[111, 110, 101] }
  | 3 => { data := #[108, 111, 99, 97, 108] }
  | 4 => { data := #[103, 108, 111, 98, 97, 108] }
  | 5 => { data := #[115, 112, 105, 110, 117, 112] }
  | 6 => { data := #[115, 116, 101, 97, 108] }
  | 7 => { data := #[114, 101, 108, 101, 97, 115, 101] }
  | 8 => { data := #[100, 114, 111, 112] }
  | 9 => { data := #[108, 111, 111, 107] }
  | 10 => { data := #[108, 111, 111, 107, 103, 108, 111, 98, 97, 108] }
  | 11 => { data := #[114, 101, 116, 97, 107, 101] }
  | 12 => { data := #[115, 112, 105, 110, 98, 97, 99, 107] }
  | 13 => { data := #[115, 116, 111, 112] }
  | 14 => { data := #[99, 104, 101, 99, 107] }
  | 15 => { data := #[117, 110, 112, 111, 108, 108] }
  | 16 => { data := #[115, 108, 101, 101, 112] }
  | 17 => { data := #[112, 117, 116, 114, 101, 115, 116] }
  | 18 => { data := #[112, 117, 116, 111, 118, 101, 114] }
  | 19 => { data := #[117, 110, 115, 112, 105, 110] }
  | 20 => { data := #[100, 105, 115, 112, 97, 116, 99, 104] }
  | 21 => { data := #[108, 111, 97, 100] }
  | 22 => { data := #[99, 108, 97, 105, 109] }
  | 23 => { data := #[102, 105, 110, 100] }
  | 24 => { data := #[119, 97, 107, 101] }
  | 25 => { data := #[100, 101, 108, 105, 118, 101, 114] }
  | 26 => { data := #[109, 97, 114, 107] }
  | 27 => { data := #[112, 117, 116, 111, 110, 101] }
  | 28 => { data := #[112, 117, 116, 110, 101, 120, 116] }
  | 29 => { data := #[112, 97, 114, 107] }
  | 30 => { data := #[97, 119, 97, 105, 116] }
  | _ => { data := #[] }
def maPlace1 : Nat → Int
  | 0 => 0
  | 1 => 0
  | 2 => 1
  | 3 => 2
  | 4 => 1
  | 5 => 0
  | 6 => 3
  | 7 => 1
  | 8 => 0
  | 9 => 4
  | 10 => 1
  | 11 => 1
  | 12 => 0
  | 13 => 1
  | 14 => 5
  | 15 => 1
  | 16 => 0
  | 17 => 2
  | 18 => 1
  | 19 => 0
  | 20 => 0
  | 21 => 0
  | 22 => 0
  | 23 => 1
  | 24 => 0
  | 25 => 5
  | 26 => 0
  | 27 => 1
  | 28 => 2
  | 29 => 5
  | 30 => 5
  | _ => 0
/-- What the table "mach.places" holds. -/
def MaPlaces (w : World) : Prop := ∀ k, k < 31 → w.cell? ⟨0, k * 2, none⟩ = some (.string (maPlace0 k)) ∧ w.cell? ⟨0, k * 2 + 1, none⟩ = some (.int .i64 (maPlace1 k))
theorem MaPlaces.of {l : List (String × DataW Unit)} {w : World} (h : laidMetH Tryz.prog l w) (hp : (l.all fun x => x.2.handleName?.isNone) = true) (j : Nat) (hm : l[j]? = some ("hostler/mach.places", Rows.laid_hostler_mach_places)) : MaPlaces w := by
  have hg : Tryz.prog.globalNamed "hostler/mach.places" = some 0 := by kernel_rfl
  have ht : (Tryz.prog.globals[0]?).map (·.type) = some 184 := by kernel_rfl
  intro k hk
  exact match k, hk with
  | 0, _ => ⟨laid_at h hp j hm hg ht 8 0 (by kernel_rfl), laid_at h hp j hm hg ht 8 1 (by kernel_rfl)⟩
  | 1, _ => ⟨laid_at h hp j hm hg ht 8 2 (by kernel_rfl), laid_at h hp j hm hg ht 8 3 (by kernel_rfl)⟩
  | 2, _ => ⟨laid_at h hp j hm hg ht 8 4 (by kernel_rfl), laid_at h hp j hm hg ht 8 5 (by kernel_rfl)⟩
  | 3, _ => ⟨laid_at h hp j hm hg ht 8 6 (by kernel_rfl), laid_at h hp j hm hg ht 8 7 (by kernel_rfl)⟩
  | 4, _ => ⟨laid_at h hp j hm hg ht 8 8 (by kernel_rfl), laid_at h hp j hm hg ht 8 9 (by kernel_rfl)⟩
  | 5, _ => ⟨laid_at h hp j hm hg ht 8 10 (by kernel_rfl), laid_at h hp j hm hg ht 8 11 (by kernel_rfl)⟩
  | 6, _ => ⟨laid_at h hp j hm hg ht 8 12 (by kernel_rfl), laid_at h hp j hm hg ht 8 13 (by kernel_rfl)⟩
  | 7, _ => ⟨laid_at h hp j hm hg ht 8 14 (by kernel_rfl), laid_at h hp j hm hg ht 8 15 (by kernel_rfl)⟩
  | 8, _ => ⟨laid_at h hp j hm hg ht 8 16 (by kernel_rfl), laid_at h hp j hm hg ht 8 17 (by kernel_rfl)⟩
  | 9, _ => ⟨laid_at h hp j hm hg ht 8 18 (by kernel_rfl), laid_at h hp j hm hg ht 8 19 (by kernel_rfl)⟩
  | 10, _ => ⟨laid_at h hp j hm hg ht 8 20 (by kernel_rfl), laid_at h hp j hm hg ht 8 21 (by kernel_rfl)⟩
  | 11, _ => ⟨laid_at h hp j hm hg ht 8 22 (by kernel_rfl), laid_at h hp j hm hg ht 8 23 (by kernel_rfl)⟩
  | 12, _ => ⟨laid_at h hp j hm hg ht 8 24 (by kernel_rfl), laid_at h hp j hm hg ht 8 25 (by kernel_rfl)⟩
  | 13, _ => ⟨laid_at h hp j hm hg ht 8 26 (by kernel_rfl), laid_at h hp j hm hg ht 8 27 (by kernel_rfl)⟩
  | 14, _ => ⟨laid_at h hp j hm hg ht 8 28 (by kernel_rfl), laid_at h hp j hm hg ht 8 29 (by kernel_rfl)⟩
  | 15, _ => ⟨laid_at h hp j hm hg ht 8 30 (by kernel_rfl), laid_at h hp j hm hg ht 8 31 (by kernel_rfl)⟩
  | 16, _ => ⟨laid_at h hp j hm hg ht 8 32 (by kernel_rfl), laid_at h hp j hm hg ht 8 33 (by kernel_rfl)⟩
  | 17, _ => ⟨laid_at h hp j hm hg ht 8 34 (by kernel_rfl), laid_at h hp j hm hg ht 8 35 (by kernel_rfl)⟩
  | 18, _ => ⟨laid_at h hp j hm hg ht 8 36 (by kernel_rfl), laid_at h hp j hm hg ht 8 37 (by kernel_rfl)⟩
  | 19, _ => ⟨laid_at h hp j hm hg ht 8 38 (by kernel_rfl), laid_at h hp j hm hg ht 8 39 (by kernel_rfl)⟩
  | 20, _ => ⟨laid_at h hp j hm hg ht 8 40 (by kernel_rfl), laid_at h hp j hm hg ht 8 41 (by kernel_rfl)⟩
  | 21, _ => ⟨laid_at h hp j hm hg ht 8 42 (by kernel_rfl), laid_at h hp j hm hg ht 8 43 (by kernel_rfl)⟩
  | 22, _ => ⟨laid_at h hp j hm hg ht 8 44 (by kernel_rfl), laid_at h hp j hm hg ht 8 45 (by kernel_rfl)⟩
  | 23, _ => ⟨laid_at h hp j hm hg ht 8 46 (by kernel_rfl), laid_at h hp j hm hg ht 8 47 (by kernel_rfl)⟩
  | 24, _ => ⟨laid_at h hp j hm hg ht 8 48 (by kernel_rfl), laid_at h hp j hm hg ht 8 49 (by kernel_rfl)⟩
  | 25, _ => ⟨laid_at h hp j hm hg ht 8 50 (by kernel_rfl), laid_at h hp j hm hg ht 8 51 (by kernel_rfl)⟩
  | 26, _ => ⟨laid_at h hp j hm hg ht 8 52 (by kernel_rfl), laid_at h hp j hm hg ht 8 53 (by kernel_rfl)⟩
  | 27, _ => ⟨laid_at h hp j hm hg ht 8 54 (by kernel_rfl), laid_at h hp j hm hg ht 8 55 (by kernel_rfl)⟩
  | 28, _ => ⟨laid_at h hp j hm hg ht 8 56 (by kernel_rfl), laid_at h hp j hm hg ht 8 57 (by kernel_rfl)⟩
  | 29, _ => ⟨laid_at h hp j hm hg ht 8 58 (by kernel_rfl), laid_at h hp j hm hg ht 8 59 (by kernel_rfl)⟩
  | 30, _ => ⟨laid_at h hp j hm hg ht 8 60 (by kernel_rfl), laid_at h hp j hm hg ht 8 61 (by kernel_rfl)⟩
  | k + 31, hk => absurd hk (by omega)
theorem MaPlaces.lt {w : World} (h : MaPlaces w) : 0 < w.heap.size := lt_of_cell (h 0 (by omega)).1
theorem MaPlaces.at {w w' : World} (h : MaPlaces w) (hb : Below w.heap.size w w') : MaPlaces w' := fun k hk => by
  have e : w'.heap[0]? = w.heap[0]? := hb.block _ h.lt
  have := h k hk
  simpa [World.cell?, e] using this
end Go.Proofs.YtopidlcifaenjaaGreatDoor
