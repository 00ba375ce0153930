/- heap.Heap.Sorted: the shelf's slices.SortFunc at entries (module HeapSh: wip/tools/laysort.sh). -/
import Derived.Test.YtlppnkemoomllaaHeapSh
import Derived.Test.YtlppnkemoomllaaHeapS
import Derived.Test.YtlppnkemoomllaaHeapC
import Derived.Test.YtlppnkemoomllaaHeapU
import Derived.Sort.OwnSorted
namespace Go.Proofs.Ytlppnkemoomllaa
set_option linter.unusedVariables false
set_option linter.unusedSimpArgs false
open Go.RowKit Go.Sort Go.Shelf Go.Lib

theorem flatK_fl (es : List (Int × Int × Int)) : flatK ent 3 es.toArray = (fl es).toArray := by
  apply Array.ext_getElem?
  intro j
  by_cases hj : j < es.length * 3
  · obtain ⟨q0, q1, q2⟩ := fl_get es (j / 3) (by omega)
    have e1 : es.toArray[j / 3]! = enAt es (j / 3) := by
      have h3 : j / 3 < es.length := by omega
      simp [enAt, List.getD, List.getElem?_eq_getElem h3, h3]
    have e2 : (flatK ent 3 es.toArray)[j]? = some ((ent (enAt es (j / 3)))[j % 3]!) := by
      simp only [flatK, Array.getElem?_map, ← e1]
      simp [hj]
    rw [e2, List.getElem?_toArray]
    have : j % 3 = 0 ∨ j % 3 = 1 ∨ j % 3 = 2 := by omega
    rcases this with h | h | h
    · rw [show (fl es)[j]? = (fl es)[j / 3 * 3]? by congr 1; omega, q0, h]; rfl
    · rw [show (fl es)[j]? = (fl es)[j / 3 * 3 + 1]? by congr 1; omega, q1, h]; rfl
    · rw [show (fl es)[j]? = (fl es)[j / 3 * 3 + 2]? by congr 1; omega, q2, h]; rfl
  · rw [Array.getElem?_eq_none (by simp; omega), Array.getElem?_eq_none (by simp [fl_len]; omega)]
theorem heap_sortedV {w : World} {g n : Nat} {os : Array Obj} {cur : Array Value} {e : TypeId} {fr : Nat × Nat} (d : Array Value) (hb : w.heap[g]? = some (.cells cur e fr)) :
    (grow (putRow id (Sort.ahead w n) g 0 d) os).heap[g]? = some (.cells (putCells id 0 d cur) e fr) := by
  have hg : g < w.heap.size := (Array.getElem?_eq_some_iff.1 hb).1
  rw [heap_grow_old _ _ (by simpa using hg)]
  simp [putRow, mapBlock, Sort.ahead, Array.getElem?_modify, hb, onCells]
theorem grownBy_sortedV {w : World} {g n : Nat} {os : Array Obj} (d : Array Value) : w.grownBy (grow (putRow id (Sort.ahead w n) g 0 d) os) (some g) := by
  refine ⟨rfl, rfl, rfl, by simp, fun k hk hne => ?_⟩
  rw [heap_grow_old _ _ (by simpa using hk)]
  have : g ≠ k := fun e => hne (by rw [e])
  simp [putRow, mapBlock, Sort.ahead, Array.getElem?_modify, this]
theorem take_putCellsV (cur : Array Value) (ts : List Value) (h : ts.length ≤ cur.size) : (putCells id 0 ts.toArray cur).toList.take ts.length = ts := by
  apply List.ext_getElem?
  intro j
  by_cases hj : j < ts.length
  · rw [List.getElem?_take_of_lt hj, Array.getElem?_toList]
    simp [putCells, hj, show j < cur.size by omega]
  · rw [List.getElem?_take_eq_none (by omega), List.getElem?_eq_none (by omega)]
theorem holdsK_own {w : World} {g : Nat} {cur : Array Value} {e : TypeId} {es : List (Int × Int × Int)} (hb : w.heap[g]? = some (.cells cur e (0, 0))) (ht : cur.toList.take (es.length * 3) = fl es) : HoldsK ent 3 w g 0 es.toArray := by
  unfold HoldsK
  rw [flatK_fl]
  intro j hj
  have hj' : j < (fl es).length := by simpa using hj
  have hl := fl_len es
  refine ⟨?_, by simp [World.frozen?, hb]⟩
  have h1 : (cur.toList.take (es.length * 3))[j]? = (fl es)[j]? := by rw [ht]
  rw [List.getElem?_take_of_lt (by omega)] at h1
  simp only [World.cell?, hb, Nat.zero_add]
  simp only [Option.isSome_none, Bool.false_eq_true, if_false]
  rw [← Array.getElem?_toList, h1]
  simp [hj']
theorem swo_ent : SWO (ltOf cmpE) where
  irrefl x := by
    have h := heapAhead.ahead_not x.1 x.2.1 x.2.2 x.1 x.2.1 x.2.2
    show aheadE x x = false
    cases e : aheadE x x
    · rfl
    · exact absurd (h e).1 (by rw [e]; simp)
  trans x y z h1 h2 := heapAhead.ahead_tr x.1 x.2.1 x.2.2 y.1 y.2.1 y.2.2 z.1 z.2.1 z.2.2 h1 h2
  ntrans x y z h1 h2 := leE_trans (a := z) (b := y) (c := x) h2 h1
theorem ent_cell (x : Int × Int × Int) : ∀ v ∈ ent x, v.oneCell' = true := by
  intro v hv
  simp only [ent, List.mem_cons, List.not_mem_nil, or_false] at hv
  rcases hv with rfl | rfl | rfl <;> rfl
theorem cmp_lays (blk off size : Nat) (w : World) : CmpLays Try.prog 35 #[] ent 3 cmpE blk off size w := fun m os dk hs x y => by
  have h := compare_g x.1 x.2.1 x.2.2 y.1 y.2.1 y.2.2 (sortWorldK ent 3 w blk off m dk os)
  exact h
theorem sort_some (g cap : Nat) (es : List (Int × Int × Int)) (w : World) (hg : g < w.heap.size) (hl : es.length ≤ 100000) (hH : HoldsK ent 3 w g 0 es.toArray) :
    Calls Try.prog 34 #[.slice (some ⟨g, 0, none⟩) es.length cap, .func (.func 35) #[] #[]] w fun e w' =>
      e = .returned (.tuple #[]) ∧ ∃ n os, w' = grow (putRow id (Sort.ahead w n) g 0 (fl (sortE es)).toArray) os := by
  have eg : ∀ args w, (callFunc 35 args).run Try.prog w = .ok (.enter 35 args) w := enters_of Try.func35 (by kernel_rfl) rfl
  have h := AnyQ.slices_SortFunc_total sortF 3 Try.isAgg37 Try.sizeOf37 ent (fun _ => rfl) ent_cell cmpE swo_ent 35 #[] g 0 cap es.toArray w eg (cmp_lays g 0 _ w) hH hg (by simp; omega)
    (fun x y h1 h2 => leE_anti h2 h1)
  refine h.mono ?_
  rintro e w' ⟨he, n, os, hw⟩
  refine ⟨he, n, os, ?_⟩
  rw [hw, ← flatK_fl]
  rfl
theorem sort_none (fv : Value) (w : World) :
    Calls Try.prog 34 #[.slice none 0 0, fv] w fun e w' => e = .returned (.tuple #[]) ∧ w' = w :=
  AnyF.slices_SortFunc_none sortF none 0 fv w
theorem sort_own (v : Value) (es : List (Int × Int × Int)) (base : Nat) (w : World) (hl : es.length ≤ 100000) (h : w.ownsRow base 37 3 v es.length (fl es)) :
    Calls Try.prog 34 #[v, .func (.func 35) #[] #[]] w fun e w' =>
      e = .returned (.tuple #[]) ∧ w'.ownsRow base 37 3 v (sortE es).length (fl (sortE es)) ∧ Below base w w' := by
  obtain ⟨h0, ⟨h1, h2⟩ | ⟨g, cap, cur, h1, h2, h3, h4, h5, h6, h7⟩⟩ := h
  · obtain rfl : es = [] := List.length_eq_zero_iff.1 h2
    subst h1
    refine (sort_none _ w).mono ?_
    rintro e w' ⟨rfl, rfl⟩
    exact ⟨rfl, ⟨by simp [sortE, fl], .inl ⟨rfl, by simp [sortE]⟩⟩, Below.refl _ _⟩
  · subst h1
    have hlen : (sortE es).length = es.length := (sortE_perm es).length_eq
    have hfl := fl_len (sortE es)
    refine (sort_some g cap es w (Array.getElem?_eq_some_iff.1 h3).1 hl (holdsK_own h3 h7)).mono ?_
    rintro e w' ⟨rfl, n, os, rfl⟩
    refine ⟨rfl, ⟨by rw [hfl], .inr ⟨g, cap, _, by rw [hlen], h2, heap_sortedV _ h3, by rw [hlen]; exact h4, h5, by simp [putCells, h6], ?_⟩⟩, ?_⟩
    · rw [← hfl]; exact take_putCellsV cur _ (by rw [hfl, hlen, h6]; exact Nat.mul_le_mul_right 3 h4)
    · exact Below.grown (Below.refl base w) (grownBy_sortedV _) (by have := (Array.getElem?_eq_some_iff.1 h3).1; omega) (fun q hq => by cases hq; exact h2)
set_option maxHeartbeats 4000000 in
theorem hsorted (w : World) (base p : Nat) (v : Value) (es : List (Int × Int × Int)) (h : Hp w base p v es) :
    Calls Try.prog 25 #[.pointer (some ⟨p, 0, none⟩)] w (Cl3 (sortE es) w) := by
  have LI := hid (hlist w base p v es h)
  have HL := hid h.len
  clear h
  go_enter Try.func25, Try.ntmps25
  go_wp2_with fail
  refine (LI.out).mono ?_
  rintro e w1 ⟨v1, rfl, ho, hb⟩
  have SO := hid (sort_own v1 es w.heap.size w1 HL.out ho)
  have HB := hid hb
  clear ho hb LI
  go_wp2_with fail
  refine (SO.out).mono ?_
  rintro e w2 ⟨rfl, ho, hb⟩
  have H := hid (And.intro ho (HB.out.trans hb))
  clear ho hb SO
  go_wp2
  go_ret
  exact ⟨v1, rfl, H.out.1, H.out.2⟩
end Go.Proofs.Ytlppnkemoomllaa
