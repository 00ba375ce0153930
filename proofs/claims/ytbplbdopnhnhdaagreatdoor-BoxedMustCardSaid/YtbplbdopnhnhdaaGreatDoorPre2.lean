/- What other texts are built of: Ring5, TabMa. -/
import Derived.Test.YtbplbdopnhnhdaaGreatDoorPre1
import Derived.Deep.RegionWith
import Derived.Deep.RegionHeld3
import Derived.Deep.AppendLies
import Derived.IntWalk
/-! The contracts of package ring, continued: New, PutAll, List; the law's row. -/
namespace Go.Proofs.YtbplbdopnhnhdaaGreatDoor
set_option linter.unusedVariables false
set_option linter.unusedSimpArgs false
open Go.RowKit

/-- A new ring. -/
def RNew (w : World) (e : Ending) (w' : World) : Prop := ∃ p, e = .returned (.pointer (some ⟨p, 0, none⟩)) ∧ Rg w' p [] 0 false 0 ∧ w.heap.size ≤ p ∧ Below w.heap.size w w'
theorem get_rep (n : Nat) (v : Value) (l : List Value) : (∀ i, i < n → (List.replicate n v ++ l).toArray[i]? = some v) ∧ ∀ i, (List.replicate n v ++ l).toArray[n + i]? = l[i]? := by
  refine ⟨fun i hi => ?_, fun i => ?_⟩
  · rw [List.getElem?_toArray, List.getElem?_append_left (by simp; omega), List.getElem?_replicate, if_pos hi]
  · rw [List.getElem?_toArray, List.getElem?_append_right (by simp)]
    simp
theorem zero_is : Tryz.zeroCells183 = (List.replicate 256 (Value.int .i64 0) ++ ([.int .i64 0, .int .i64 0, .int .i64 0, .bool false, .int .i64 0] : List Value)).toArray := by kernel_rfl
theorem rg_zero (w : World) : Rg (w.alloc (.cells Tryz.zeroCells183 183)) w.heap.size [] 0 false 0 := by
  rw [zero_is]
  exact ⟨⟨fun _ => 0, 0, ⟨⟨_, Deep.blk_alloc_new _ _, (get_rep _ _ _).1, (get_rep 256 _ _).2 0, (get_rep 256 _ _).2 1, (get_rep 256 _ _).2 2, (get_rep 256 _ _).2 3, (get_rep 256 _ _).2 4⟩, by omega, by simp, fun cs t fr hc => by
    rw [Deep.blk_alloc_new] at hc
    simp only [Option.some.injEq, Obj.cells.injEq] at hc
    rw [← hc.1, List.size_toArray, List.length_append, List.length_replicate]; rfl⟩, fun i h => by simp at h⟩⟩
set_option maxRecDepth 100000 in
set_option maxHeartbeats 1000000 in
theorem new_r (w : World) : Calls Tryz.prog 52 #[] w (RNew w) := by
  go_enter Tryz.func52, Tryz.ntmps52
  go_wp2
  go_ret
  exact ⟨w.heap.size, rfl, rg_zero w, Nat.le_refl _, (Below.refl _ _).alloc (Nat.le_refl _) _⟩

/-- The law's row of numbers. -/
def row6L (f : Int) (n : Nat) : List Int := (List.range n).map fun (i : Nat) => f + (i : Int)
theorem row6_succ (f : Int) (n : Nat) : row6L f (n + 1) = row6L f n ++ [f + (n : Int)] := by simp [row6L, List.range_succ]
theorem row6_length (f : Int) (n : Nat) : (row6L f n).length = n := by simp [row6L]
theorem row6_fin {w wr : World} {f : Int} {k : Nat} {v : Value} (h : wr.ownsRow w.heap.size 3 1 v k ((row6L f k).map (Value.int .i64))) (hb : Below w.heap.size w wr) : ClonePost (row6L f k) w (.returned v) wr :=
  ⟨_, rfl, by unfold Owns; rw [row6_length]; exact h, hb⟩
set_option maxHeartbeats 4000000 in
theorem putall_r (p : Nat) (xs ys : List Int) (v : Value) (nx : Int) (hs : Bool) (st : Int) (w : World) (H : Rg w p xs nx hs st) (hy : Stay w p none v ys) (hyl : ys.length ≤ 100000) :
    Calls Tryz.prog 163 #[.pointer (some ⟨p, 0, none⟩), v] w (RTold p (ys.drop (256 - xs.length)) (xs ++ ys.take (256 - xs.length)) nx hs st w) := by
  obtain ⟨a1, c1, rfl, hcap, _⟩ := hy.rd
  obtain ⟨n, hn⟩ : ∃ n, n = ys.length := ⟨_, rfl⟩
  have hle := H.le
  have HN := hid hn
  have HY := hid hy
  have HR := hid H
  have hcm := hcap.2.1
  unfold maxLen at hcm
  have hcm2 := hcm
  have hnc := hcap.1
  rw [← hn] at hyl HY hnc ⊢
  obtain ⟨l, hl⟩ : ∃ l, l = xs.length := ⟨_, rfl⟩
  have HL := hid hl
  rw [← hl] at hle
  rw [← hl]
  clear H hy hn hcap hl
  go_enter Tryz.func163, Tryz.ntmps163
  go_wp2_with fail
  go_loopw [9] (fun i wr => ∃ (j : Nat), j ≤ n ∧ l + j ≤ 256 ∧ i = .int .i64 j ∧ Hid (Rg wr p (xs ++ ys.take j) nx hs st) ∧ Hid (OnlyO p none w wr))
    (fun i _ => n - (intOf i).toNat)
  case atStart => exact ⟨0, by omega, by omega, rfl, hid (by simpa using HR.out), hid (OnlyO.refl _ _ _)⟩
  case round =>
    obtain ⟨j, hj, hlj, rfl, HRr, HX⟩ := hrel
    have HJL := hid (show (xs ++ ys.take j).length = l + j by rw [List.length_append, List.length_take, ← HL.out, ← HN.out]; omega)
    by_cases hlt : j < n
    · have hjy : j < ys.length := by rw [← HN.out]; exact hlt
      obtain ⟨a', c', he, _, hrd⟩ := (HY.out.only HX.out).rd
      simp only [Value.slice.injEq] at he
      obtain ⟨g, o, h2, h3, h4⟩ := hrd (by omega)
      have he1 := he.1
      rw [h2] at he1
      clear he h2
      subst he1
      obtain ⟨y, hy⟩ : ∃ y, y = ys.getD j 0 := ⟨_, rfl⟩
      have q1 := h4 j hjy
      rw [← hy] at q1
      have HT := hid (lst_take_snoc ys j hjy)
      rw [← hy] at HT
      clear hy h4 hrd hjy
      by_cases hfull : l + j = 256
      · have C := hid (push_full p (xs ++ ys.take j) nx hs st y wr HRr.out (by rw [HJL.out]; exact hfull))
        have hjl : j = 256 - l := by omega
        have HRD : Hid (Reads wr (.slice (some ⟨g, o + j, none⟩) (n - j) (c1 - j)) (ys.drop j)) := by
          obtain ⟨a', c', he, hcc, hrd⟩ := (HY.out.only HX.out).rd
          simp only [Value.slice.injEq] at he
          have hlen : (ys.drop j).length = n - j := by rw [List.length_drop, ← HN.out]
          refine ⟨some ⟨g, o + j, none⟩, c1 - j, by rw [hlen], ⟨by rw [hlen]; omega, by unfold maxLen; omega, .inr ⟨_, rfl⟩⟩, fun hp => ?_⟩
          obtain ⟨g', o', h2, h3, h4⟩ := hrd (by have := HN.out; omega)
          rw [← he.1] at h2
          simp only [Option.some.injEq, Addr.mk.injEq] at h2
          obtain ⟨rfl, rfl, _⟩ := h2
          refine ⟨g, o + j, rfl, h3, fun i hi => ?_⟩
          rw [hlen] at hi
          have := h4 (j + i) (by have := HN.out; omega)
          rw [Nat.add_assoc, this]
          simp [List.getD_eq_getElem?_getD]
        obtain ⟨i0, hi, hz0, hz1, hz2⟩ := info_parts infoInt
        have HI := hid hi
        have HZ0 := hid hz0
        have HZ1 := hid hz1
        have HZ2 := hid hz2
        have B1 := hid (show 0 + (ys.drop j).length ≤ maxLen by rw [List.length_drop]; have := HN.out; unfold maxLen; omega)
        have B2 := hid (show (0 + (ys.drop j).length) * 8 ≤ 140737488355328 by rw [List.length_drop]; have := HN.out; omega)
        have B3 := hid HX.out.size
        have HJE := hid hjl
        have hjc : j < c1 := by omega
        clear hi hz0 hz1 hz2 hjl hfull h3
        go_wp2_with fail
        refine C.out.mono ?_
        rintro e w2 ⟨rfl, rfl⟩
        go_wp2_with (with_reducible refine wpList_append_reads rfl (.const (.slice none 0 0)) (.tmp 20) 77 rfl w.heap.size 3 i0 (.int .i64 0) 8 Tryz.underlying77 HI.out HZ0.out HZ1.out HZ2.out (by decide) (.slice none 0 0) 0 [] rfl (World.ownsRow_nil _ _ _ _) (ys.drop j) (.slice (some ⟨g, o + j, none⟩) (n - j) (c1 - j)) rfl HRD.out B1.out B2.out B3.out ?_)
        intro v6 w6 hown6 hgr6 _
        have ho6 : Owns w6 w.heap.size v6 (ys.drop j) := by unfold Owns; simpa using hown6
        have hpl := HRr.out.lt
        have hb6 : Below w.heap.size wr w6 := (Below.refl w.heap.size wr).grown hgr6 HX.out.size (fun q hq => by simp [Value.ownBlock] at hq)
        have FIN : Hid (RTold p (ys.drop (256 - l)) (xs ++ ys.take (256 - l)) nx hs st w (.returned v6) w6) := by
          rw [← HJE.out]
          exact ⟨_, rfl, ho6, HRr.out.kept (hgr6.block p hpl (by simp [Value.ownBlock])), HX.out.beyond hb6⟩
        obtain ⟨va, vm, vc, rfl⟩ := ho6.slice3
        clear hown6 hgr6 ho6 hb6 hpl
        go_wp2
        go_ret
        exact FIN.out
      · have C := hid (push_any p (xs ++ ys.take j) nx hs st y wr HRr.out (by rw [HJL.out]; omega))
        have hlj1 : l + (j + 1) ≤ 256 := by omega
        clear hfull
        go_wp2_with fail
        refine C.out.mono ?_
        rintro e w2 ⟨rfl, hr2, hx2⟩
        have HR2 := hid (show Rg w2 p (xs ++ ys.take (j + 1)) nx hs st by rw [HT.out, ← List.append_assoc]; exact hr2)
        have HX2 := hid (HX.out.trans hx2 (.inl rfl))
        clear hr2 hx2
        go_wp2
        go_roundw
        case rel => exact ⟨j + 1, by omega, hlj1, by go_num, HR2, HX2⟩
        case measure => simp [intOf]; omega
    · obtain rfl : j = n := by omega
      have FIN : Hid (RTold p (ys.drop (256 - l)) (xs ++ ys.take (256 - l)) nx hs st w (.returned (.slice none 0 0)) wr) := by
        have e1 : ys.drop (256 - l) = [] := List.drop_eq_nil_of_le (by rw [← HN.out]; omega)
        have e2 : ys.take (256 - l) = ys.take j := by rw [List.take_of_length_le (by rw [← HN.out]; omega), List.take_of_length_le (by rw [← HN.out]; exact Nat.le_refl _)]
        rw [e1, e2]
        exact ⟨_, rfl, owns_nil _ _, HRr.out, HX.out⟩
      go_wp2
      go_ret
      exact FIN.out

/-- What List tells. -/
def allL (xs : List Int) (nx : Int) (hs : Bool) : List Int := if hs then xs ++ [nx] else xs
/-- A copy of a ring: the same cells in a new block. -/
theorem Rg.copied {w w2 : World} {p : Nat} {xs : List Int} {nx : Int} {hs : Bool} {st : Int} (H : Rg w p xs nx hs st) {cs : Array Value} (h : w.heap[p]? = some (.cells cs 183 (0, 0))) : Rg (w2.alloc (.cells cs 183)) w2.heap.size xs nx hs st := by
  obtain ⟨A, k, H0, hx⟩ := H.ex
  obtain ⟨cs', h1, h2⟩ := H0.blk
  rw [h] at h1
  simp only [Option.some.injEq, Obj.cells.injEq, and_true] at h1
  subst h1
  exact ⟨A, k, ⟨⟨cs, Deep.blk_alloc_new _ _, h2⟩, H0.hh, H0.hn, fun c t fr hc => by
    rw [Deep.blk_alloc_new] at hc
    simp only [Option.some.injEq, Obj.cells.injEq] at hc
    rw [← hc.1]; exact H0.sz _ _ _ h⟩, hx⟩
theorem Rg.cells {w : World} {p : Nat} {xs : List Int} {nx : Int} {hs : Bool} {st : Int} (H : Rg w p xs nx hs st) : ∃ cs, w.heap[p]? = some (.cells cs 183 (0, 0)) ∧ cs.size = 261 ∧ cs.all (·.oneCell') = true := by
  obtain ⟨A, k, H0, hx⟩ := H.ex
  obtain ⟨cs, h1, h2, h3, h4, h5, h6, h7⟩ := H0.blk
  have hz := H0.sz _ _ _ h1
  refine ⟨cs, h1, hz, ?_⟩
  rw [Array.all_eq_true]
  intro i hi
  have hc : cs[i]? = some cs[i] := Array.getElem?_eq_getElem hi
  rcases Nat.lt_or_ge i 256 with h | h
  · rw [h2 i h] at hc
    simp only [Option.some.injEq] at hc
    rw [← hc]; rfl
  · obtain rfl | rfl | rfl | rfl | rfl : i = 256 ∨ i = 257 ∨ i = 258 ∨ i = 259 ∨ i = 260 := by omega
    all_goals
      first
        | (rw [h3] at hc; simp only [Option.some.injEq] at hc; rw [← hc]; rfl)
        | (rw [h4] at hc; simp only [Option.some.injEq] at hc; rw [← hc]; rfl)
        | (rw [h5] at hc; simp only [Option.some.injEq] at hc; rw [← hc]; rfl)
        | (rw [h6] at hc; simp only [Option.some.injEq] at hc; rw [← hc]; rfl)
        | (rw [h7] at hc; simp only [Option.some.injEq] at hc; rw [← hc]; rfl)
end Go.Proofs.YtbplbdopnhnhdaaGreatDoor
/-! The table of places. -/
namespace Go.Proofs.YtbplbdopnhnhdaaGreatDoor
set_option linter.unusedVariables false
set_option linter.unusedSimpArgs false
set_option maxRecDepth 100000
open Go.RowKit

def maPlace0 : Nat → ByteArray
  | 0 => { data := #[101, 120, 101, 99] }
  | 1 => { data := #[115, 99, 104, 101, 100] }
  | 2 => { data := #[111, 110, 101] }
  | 3 => { data := #[108, 111, 99, 97, 108] }
  | 4 => { data := #[103, 108, 111, 98, 97, 108] }
  | 5 => { data := #[115, 112, 105, 110, 117, 112] }
  | 6 => { data := #[115, 116, 101, 97, 108] }
  | 7 => { data := #[114, 101, 108, 101, 97, 115, 101] }
  | 8 => { data := #[100, 114, 111, 112] }
  | 9 => { data := #[108, 111, 111, 107] }
  | 10 => { data := #[108, 111, 111, 107, 103, 108, 111, 98, 97, 108] }
  | 11 => { data := #[114, 101, 116, 97, 107, 101] }
  | 12 => { data := #[115, 112, 105, 110, 98, 97, 99, 107] }
  | 13 => { data := #[115, 116, 111, 112] }
  | 14 => { data := #[99, 104, 101, 99, 107] }
  | 15 => { data := #[117, 110, 112, 111, 108, 108] }
  | 16 => { data := #[115, 108, 101, 101, 112] }
  | 17 => { data := #[112, 117, 116, 114, 101, 115, 116] }
  | 18 => { data := #[112, 117, 116, 111, 118, 101, 114] }
  | 19 => { data := #[117, 110, 115, 112, 105, 110] }
  | 20 => { data := #[100, 105, 115, 112, 97, 116, 99, 104] }
  | 21 => { data := #[108, 111, 97, 100] }
  | 22 => { data := #[99, 108, 97, 105, 109] }
  | 23 => { data := #[102, 105, 110, 100] }
  | 24 => { data := #[119, 97, 107, 101] }
  | 25 => { data := #[100, 101, 108, 105, 118, 101, 114] }
  | 26 => { data := #[109, 97, 114, 107] }
  | 27 => { data := #[112, 117, 116, 111, 110, 101] }
  | 28 => { data := #[112, 117, 116, 110, 101, 120, 116] }
  | 29 => { data := #[112, 97, 114, 107] }
  | 30 => { data := #[97, 119, 97, 105, 116] }
  | _ => { data := #[] }
def maPlace1 : Nat → Int
  | 0 => 0
  | 1 => 0
  | 2 => 1
  | 3 => 2
  | 4 => 1
  | 5 => 0
  | 6 => 3
  | 7 => 1
  | 8 => 0
  | 9 => 4
  | 10 => 1
  | 11 => 1
  | 12 => 0
  | 13 => 1
  | 14 => 5
  | 15 => 1
  | 16 => 0
  | 17 => 2
  | 18 => 1
  | 19 => 0
  | 20 => 0
  | 21 => 0
  | 22 => 0
  | 23 => 1
  | 24 => 0
  | 25 => 5
  | 26 => 0
  | 27 => 1
  | 28 => 2
  | 29 => 5
  | 30 => 5
  | _ => 0
/-- What the table "mach.places" holds. -/
def MaPlaces (w : World) : Prop := ∀ k, k < 31 → w.cell? ⟨0, k * 2, none⟩ = some (.string (maPlace0 k)) ∧ w.cell? ⟨0, k * 2 + 1, none⟩ = some (.int .i64 (maPlace1 k))
theorem MaPlaces.of {l : List (String × DataW Unit)} {w : World} (h : laidMetH Tryz.prog l w) (hp : (l.all fun x => x.2.handleName?.isNone) = true) (j : Nat) (hm : l[j]? = some ("hostler/mach.places", Rows.laid_hostler_mach_places)) : MaPlaces w := by
  have hg : Tryz.prog.globalNamed "hostler/mach.places" = some 0 := by kernel_rfl
  have ht : (Tryz.prog.globals[0]?).map (·.type) = some 197 := by kernel_rfl
  intro k hk
  exact match k, hk with
  | 0, _ => ⟨laid_at h hp j hm hg ht 8 0 (by kernel_rfl), laid_at h hp j hm hg ht 8 1 (by kernel_rfl)⟩
  | 1, _ => ⟨laid_at h hp j hm hg ht 8 2 (by kernel_rfl), laid_at h hp j hm hg ht 8 3 (by kernel_rfl)⟩
  | 2, _ => ⟨laid_at h hp j hm hg ht 8 4 (by kernel_rfl), laid_at h hp j hm hg ht 8 5 (by kernel_rfl)⟩
  | 3, _ => ⟨laid_at h hp j hm hg ht 8 6 (by kernel_rfl), laid_at h hp j hm hg ht 8 7 (by kernel_rfl)⟩
  | 4, _ => ⟨laid_at h hp j hm hg ht 8 8 (by kernel_rfl), laid_at h hp j hm hg ht 8 9 (by kernel_rfl)⟩
  | 5, _ => ⟨laid_at h hp j hm hg ht 8 10 (by kernel_rfl), laid_at h hp j hm hg ht 8 11 (by kernel_rfl)⟩
  | 6, _ => ⟨laid_at h hp j hm hg ht 8 12 (by kernel_rfl), laid_at h hp j hm hg ht 8 13 (by kernel_rfl)⟩
  | 7, _ => ⟨laid_at h hp j hm hg ht 8 14 (by kernel_rfl), laid_at h hp j hm hg ht 8 15 (by kernel_rfl)⟩
  | 8, _ => ⟨laid_at h hp j hm hg ht 8 16 (by kernel_rfl), laid_at h hp j hm hg ht 8 17 (by kernel_rfl)⟩
  | 9, _ => ⟨laid_at h hp j hm hg ht 8 18 (by kernel_rfl), laid_at h hp j hm hg ht 8 19 (by kernel_rfl)⟩
  | 10, _ => ⟨laid_at h hp j hm hg ht 8 20 (by kernel_rfl), laid_at h hp j hm hg ht 8 21 (by kernel_rfl)⟩
  | 11, _ => ⟨laid_at h hp j hm hg ht 8 22 (by kernel_rfl), laid_at h hp j hm hg ht 8 23 (by kernel_rfl)⟩
  | 12, _ => ⟨laid_at h hp j hm hg ht 8 24 (by kernel_rfl), laid_at h hp j hm hg ht 8 25 (by kernel_rfl)⟩
  | 13, _ => ⟨laid_at h hp j hm hg ht 8 26 (by kernel_rfl), laid_at h hp j hm hg ht 8 27 (by kernel_rfl)⟩
  | 14, _ => ⟨laid_at h hp j hm hg ht 8 28 (by kernel_rfl), laid_at h hp j hm hg ht 8 29 (by kernel_rfl)⟩
  | 15, _ => ⟨laid_at h hp j hm hg ht 8 30 (by kernel_rfl), laid_at h hp j hm hg ht 8 31 (by kernel_rfl)⟩
  | 16, _ => ⟨laid_at h hp j hm hg ht 8 32 (by kernel_rfl), laid_at h hp j hm hg ht 8 33 (by kernel_rfl)⟩
  | 17, _ => ⟨laid_at h hp j hm hg ht 8 34 (by kernel_rfl), laid_at h hp j hm hg ht 8 35 (by kernel_rfl)⟩
  | 18, _ => ⟨laid_at h hp j hm hg ht 8 36 (by kernel_rfl), laid_at h hp j hm hg ht 8 37 (by kernel_rfl)⟩
  | 19, _ => ⟨laid_at h hp j hm hg ht 8 38 (by kernel_rfl), laid_at h hp j hm hg ht 8 39 (by kernel_rfl)⟩
  | 20, _ => ⟨laid_at h hp j hm hg ht 8 40 (by kernel_rfl), laid_at h hp j hm hg ht 8 41 (by kernel_rfl)⟩
  | 21, _ => ⟨laid_at h hp j hm hg ht 8 42 (by kernel_rfl), laid_at h hp j hm hg ht 8 43 (by kernel_rfl)⟩
  | 22, _ => ⟨laid_at h hp j hm hg ht 8 44 (by kernel_rfl), laid_at h hp j hm hg ht 8 45 (by kernel_rfl)⟩
  | 23, _ => ⟨laid_at h hp j hm hg ht 8 46 (by kernel_rfl), laid_at h hp j hm hg ht 8 47 (by kernel_rfl)⟩
  | 24, _ => ⟨laid_at h hp j hm hg ht 8 48 (by kernel_rfl), laid_at h hp j hm hg ht 8 49 (by kernel_rfl)⟩
  | 25, _ => ⟨laid_at h hp j hm hg ht 8 50 (by kernel_rfl), laid_at h hp j hm hg ht 8 51 (by kernel_rfl)⟩
  | 26, _ => ⟨laid_at h hp j hm hg ht 8 52 (by kernel_rfl), laid_at h hp j hm hg ht 8 53 (by kernel_rfl)⟩
  | 27, _ => ⟨laid_at h hp j hm hg ht 8 54 (by kernel_rfl), laid_at h hp j hm hg ht 8 55 (by kernel_rfl)⟩
  | 28, _ => ⟨laid_at h hp j hm hg ht 8 56 (by kernel_rfl), laid_at h hp j hm hg ht 8 57 (by kernel_rfl)⟩
  | 29, _ => ⟨laid_at h hp j hm hg ht 8 58 (by kernel_rfl), laid_at h hp j hm hg ht 8 59 (by kernel_rfl)⟩
  | 30, _ => ⟨laid_at h hp j hm hg ht 8 60 (by kernel_rfl), laid_at h hp j hm hg ht 8 61 (by kernel_rfl)⟩
  | k + 31, hk => absurd hk (by omega)
theorem MaPlaces.lt {w : World} (h : MaPlaces w) : 0 < w.heap.size := lt_of_cell (h 0 (by omega)).1
theorem MaPlaces.at {w w' : World} (h : MaPlaces w) (hb : Below w.heap.size w w') : MaPlaces w' := fun k hk => by
  have e : w'.heap[0]? = w.heap[0]? := hb.block _ h.lt
  have := h k hk
  simpa [World.cell?, e] using this
end Go.Proofs.YtbplbdopnhnhdaaGreatDoor
