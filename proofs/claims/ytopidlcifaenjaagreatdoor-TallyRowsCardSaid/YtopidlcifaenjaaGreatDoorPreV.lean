/- What other texts are built of: TlS, TlP, TlV. -/
import Derived.Test.YtopidlcifaenjaaGreatDoorTlSh
import Derived.Test.YtopidlcifaenjaaGreatDoorPreT
import Derived.Sort.OwnSorted
import Derived.Sort.Grow
import Derived.Deep.RegionWith
import Derived.Deep.CutBlock
/-! tally.All's sort: the rows in the order of their goroutines (module TlSh: wip/tools/laysort.sh). -/
namespace Go.Proofs.YtopidlcifaenjaaGreatDoor
set_option linter.unusedVariables false
set_option linter.unusedSimpArgs false
set_option maxRecDepth 20000
open Go.RowKit Go.Sort Go.Shelf Go.Lib

/-- What cmp.Compare answers. -/
def d3 (a b : Int) : Int := if a < b then -1 else if b < a then 1 else 0
theorem d3_lt {a b : Int} (h : a < b) : d3 a b = -1 := by simp [d3, h]
theorem d3_gt {a b : Int} (h : b < a) : d3 a b = 1 := by unfold d3; rw [if_neg (by omega), if_pos h]
theorem d3_eq {a b : Int} (h : a = b) : d3 a b = 0 := by unfold d3; rw [if_neg (by omega), if_neg (by omega)]
theorem nan9 (x : Int) (w : World) : Calls Tryz.prog 50 #[.int .i64 x] w fun e w' => e = .returned (.bool false) ∧ w' = w := by
  have hx : (x != x) = false := by simp
  go_enter Tryz.func50, Tryz.ntmps50
  go_wp2
  go_ret
  exact ⟨rfl, rfl⟩
theorem cmp9 (x y : Int) (w : World) : Calls Tryz.prog 27 #[.int .i64 x, .int .i64 y] w fun e w' => e = .returned (.int .i64 (d3 x y)) ∧ w' = w := by
  rcases (show x < y ∨ y < x ∨ x = y by omega) with h1 | h1 | h1
  · rw [d3_lt h1]
    go_enter Tryz.func27, Tryz.ntmps27
    go_wp2_with fail
    refine (nan9 x _).mono ?_
    rintro e w' ⟨rfl, rfl⟩
    go_wp2_with fail
    refine (nan9 y _).mono ?_
    rintro e w' ⟨rfl, rfl⟩
    go_wp2
    go_ret
    exact ⟨rfl, rfl⟩
  · rw [d3_gt h1]
    go_enter Tryz.func27, Tryz.ntmps27
    go_wp2_with fail
    refine (nan9 x _).mono ?_
    rintro e w' ⟨rfl, rfl⟩
    go_wp2_with fail
    refine (nan9 y _).mono ?_
    rintro e w' ⟨rfl, rfl⟩
    go_wp2
    go_ret
    exact ⟨rfl, rfl⟩
  · rw [d3_eq h1]
    subst h1
    go_enter Tryz.func27, Tryz.ntmps27
    go_wp2_with fail
    refine (nan9 x _).mono ?_
    rintro e w' ⟨rfl, rfl⟩
    go_wp2_with fail
    refine (nan9 x _).mono ?_
    rintro e w' ⟨rfl, rfl⟩
    go_wp2
    go_ret
    exact ⟨rfl, rfl⟩
theorem two_grow (w : World) (a b : Obj) : (w.alloc a).alloc b = grow (w.drewN 0) (#[a] ++ #[b]) := by
  rw [alloc_eq_grow, alloc_eq_grow, grow_grow]
  rfl
set_option maxHeartbeats 4000000 in
theorem allcmp_g (x y : Rw) (w : World) :
    Calls Tryz.prog 26 #[.agg (rwc x).toArray, .agg (rwc y).toArray] w fun e w' => e = .returned (.int .i64 (d3 x.1 y.1)) ∧ ∃ q os', w' = grow (w.drewN q) os' := by
  obtain ⟨g, f, l⟩ := x
  obtain ⟨g', f', l'⟩ := y
  have c0 : ∀ o, ((w.alloc (.cells (rowc g f l) 32)).alloc o).cell? ⟨w.heap.size, 0, none⟩ = some (.int .i64 g) := fun o => blk_cell ((Below.heap_alloc _ _ _ (by simp)).trans (Deep.blk_alloc_new _ _)) rfl
  have c1 : ((w.alloc (.cells (rowc g f l) 32)).alloc (.cells (rowc g' f' l') 32)).cell? ⟨w.heap.size + 1, 0, none⟩ = some (.int .i64 g') := by
    have := Deep.blk_alloc_new (w.alloc (.cells (rowc g f l) 32)) (.cells (rowc g' f' l') 32)
    rw [World.size_alloc] at this
    exact blk_cell this rfl
  have FIN := hid (two_grow w (.cells (rowc g f l) 32) (.cells (rowc g' f' l') 32))
  show Calls Tryz.prog 26 #[.agg (rowc g f l), .agg (rowc g' f' l')] w fun e w' => e = .returned (.int .i64 (d3 g g')) ∧ ∃ q os', w' = grow (w.drewN q) os'
  have CM := hid (cmp9 g g' ((w.alloc (.cells (rowc g f l) 32)).alloc (.cells (rowc g' f' l') 32)))
  unfold rowc at c0 c1 CM FIN ⊢
  go_enter Tryz.func26, Tryz.ntmps26
  go_wp2_with fail
  refine CM.out.mono ?_
  rintro e w' ⟨rfl, rfl⟩
  go_wp2
  go_ret
  exact ⟨rfl, 0, _, FIN.out⟩

/-- The row of a goroutine. -/
def rowOf (rs : List Rw) (g : Int) : Rw := match rs.find? (fun r => decide (r.1 = g)) with
  | some r => (g, r.2)
  | none => (g, fun _ => 0, 0)
theorem rowOf_1 (rs : List Rw) (g : Int) : (rowOf rs g).1 = g := by unfold rowOf; split <;> rfl
theorem rwAt_eq {rs : List Rw} {i : Nat} (h : i < rs.length) : rwAt rs i = rs[i] := by simp [rwAt, h]
theorem rowOf_at {es : List Ev} {rs : List Rw} (hA : AllI es rs) {r : Rw} (hr : r ∈ rs) : rowOf rs r.1 = r := by
  unfold rowOf
  split
  · rename_i q hq
    have h1 := List.mem_of_find?_eq_some hq
    have h2 : q.1 = r.1 := by simpa using List.find?_some hq
    obtain ⟨i, hi, e1⟩ := List.getElem_of_mem h1
    obtain ⟨j, hj, e2⟩ := List.getElem_of_mem hr
    have := hA.nd i j hi hj (by rw [rwAt_eq hi, rwAt_eq hj, e1, e2]; exact h2)
    subst this
    rw [e1] at e2
    rw [← e2]
  · rename_i hq
    have := (List.find?_eq_none.1 hq) r hr
    simp at this
def keys (rs : List Rw) : List Int := rs.map (·.1)
def enc9 (rs : List Rw) (g : Int) : List Value := rwc (rowOf rs g)
theorem flatK_fr (rs : List Rw) (ks : List Int) : flatK (enc9 rs) 10 ks.toArray = (fr (ks.map (rowOf rs))).toArray := by
  apply Array.ext_getElem?
  intro j
  by_cases hj : j < ks.length * 10
  · have h3 : j / 10 < ks.length := by omega
    have q := fr_get (ks.map (rowOf rs)) (j / 10) (j % 10) (by rw [List.length_map]; exact h3) (Nat.mod_lt _ (by omega))
    have ea : rwAt (ks.map (rowOf rs)) (j / 10) = rowOf rs ks[j / 10] := by rw [rwAt_eq (by rw [List.length_map]; exact h3), List.getElem_map]
    have e1 : ks.toArray[j / 10]! = ks[j / 10] := by simp [h3]
    have e2 : (flatK (enc9 rs) 10 ks.toArray)[j]? = some ((enc9 rs ks[j / 10])[j % 10]!) := by
      simp only [flatK, Array.getElem?_map, ← e1]
      simp [hj]
    rw [show j / 10 * 10 + j % 10 = j by omega] at q
    rw [e2, List.getElem?_toArray, q, ea]
    unfold enc9
    have hl : j % 10 < (rwc (rowOf rs ks[j / 10])).length := by rw [rwc_len]; omega
    rw [List.getElem?_eq_getElem hl, getElem!_pos (rwc (rowOf rs ks[j / 10])) (j % 10) hl]
  · rw [Array.getElem?_eq_none (by simp; omega), Array.getElem?_eq_none (by simp [fr_len]; omega)]
theorem heap_sorted9 {w : World} {g n : Nat} {os : Array Obj} {cur : Array Value} {e : TypeId} {fr : Nat × Nat} (d : Array Value) (hb : w.heap[g]? = some (.cells cur e fr)) :
    (grow (putRow id (Sort.ahead w n) g 0 d) os).heap[g]? = some (.cells (putCells id 0 d cur) e fr) := by
  have hg : g < w.heap.size := (Array.getElem?_eq_some_iff.1 hb).1
  rw [heap_grow_old _ _ (by simpa using hg)]
  simp [putRow, mapBlock, Sort.ahead, Array.getElem?_modify, hb, onCells]
theorem grownBy_sorted9 {w : World} {g n : Nat} {os : Array Obj} (d : Array Value) : w.grownBy (grow (putRow id (Sort.ahead w n) g 0 d) os) (some g) := by
  refine ⟨rfl, rfl, rfl, by simp, fun k hk hne => ?_⟩
  rw [heap_grow_old _ _ (by simpa using hk)]
  have : g ≠ k := fun e => hne (by rw [e])
  simp [putRow, mapBlock, Sort.ahead, Array.getElem?_modify, this]
theorem take_putCells9 (cur : Array Value) (ts : List Value) (h : ts.length ≤ cur.size) : (putCells id 0 ts.toArray cur).toList.take ts.length = ts := by
  apply List.ext_getElem?
  intro j
  by_cases hj : j < ts.length
  · rw [List.getElem?_take_of_lt hj, Array.getElem?_toList]
    simp [putCells, hj, show j < cur.size by omega]
  · rw [List.getElem?_take_eq_none (by omega), List.getElem?_eq_none (by omega)]
theorem holdsK_own9 {w : World} {g : Nat} {cur : Array Value} {e : TypeId} {rs : List Rw} {ks : List Int} (hb : w.heap[g]? = some (.cells cur e (0, 0))) (ht : cur.toList.take (ks.length * 10) = fr (ks.map (rowOf rs))) : HoldsK (enc9 rs) 10 w g 0 ks.toArray := by
  unfold HoldsK
  rw [flatK_fr]
  intro j hj
  have hj' : j < (fr (ks.map (rowOf rs))).length := by simpa using hj
  have hl := fr_len (ks.map (rowOf rs))
  rw [List.length_map] at hl
  refine ⟨?_, by simp [World.frozen?, hb]⟩
  have h1 : (cur.toList.take (ks.length * 10))[j]? = (fr (ks.map (rowOf rs)))[j]? := by rw [ht]
  rw [List.getElem?_take_of_lt (by omega)] at h1
  simp only [World.cell?, hb, Nat.zero_add]
  simp only [Option.isSome_none, Bool.false_eq_true, if_false]
  rw [← Array.getElem?_toList, h1]
  simp [hj']
theorem lt9 (x y : Int) : ltOf d3 x y = decide (x < y) := by
  unfold ltOf
  rcases (show x < y ∨ y < x ∨ x = y by omega) with h | h | h
  · rw [d3_lt h]; simp [h]
  · rw [d3_gt h]; simp; omega
  · rw [d3_eq h]; simp; omega
theorem swo9 : SWO (ltOf d3) where
  irrefl x := by rw [lt9]; simp
  trans x y z h1 h2 := by rw [lt9] at *; simp at *; omega
  ntrans x y z h1 h2 := by rw [lt9] at *; simp at *; omega
theorem enc9_cell (rs : List Rw) (x : Int) : ∀ v ∈ enc9 rs x, v.oneCell' = true := by
  intro v hv
  unfold enc9 rwc rowc at hv
  simp only [List.mem_cons, List.not_mem_nil, or_false] at hv
  rcases hv with rfl | rfl | rfl | rfl | rfl | rfl | rfl | rfl | rfl | rfl <;> rfl
theorem cmp9_lays (rs : List Rw) (blk off size : Nat) (w : World) : CmpLays Tryz.prog 26 #[] (enc9 rs) 10 d3 blk off size w := fun m os dk hs x y => by
  have h := allcmp_g (rowOf rs x) (rowOf rs y) (sortWorldK (enc9 rs) 10 w blk off m dk os)
  rw [rowOf_1, rowOf_1] at h
  exact h
/-- The goroutines in order. -/
def sort9 (ks : List Int) : List Int := ks.mergeSort fun x y => !(ltOf d3) y x
theorem sort9_perm (ks : List Int) : (sort9 ks).Perm ks := List.mergeSort_perm ..
theorem sort9_ord (ks : List Int) : (sort9 ks).Pairwise (· ≤ ·) := by
  have := List.pairwise_mergeSort (le := fun x y => !(ltOf d3) y x) (fun a b c h1 h2 => by
    rw [lt9] at *; simp at *; omega) (fun a b => by rw [lt9, lt9]; simp; omega) ks
  exact this.imp (fun {a b} h => by rw [lt9] at h; simpa using h)
theorem sort9_some (g cap : Nat) (rs : List Rw) (ks : List Int) (w : World) (hg : g < w.heap.size) (hl : ks.length ≤ 100000) (hH : HoldsK (enc9 rs) 10 w g 0 ks.toArray) :
    Calls Tryz.prog 25 #[.slice (some ⟨g, 0, none⟩) ks.length cap, .func (.func 26) #[] #[]] w fun e w' =>
      e = .returned (.tuple #[]) ∧ ∃ n os, w' = grow (putRow id (Sort.ahead w n) g 0 (fr ((sort9 ks).map (rowOf rs))).toArray) os := by
  have eg : ∀ args w, (callFunc 26 args).run Tryz.prog w = .ok (.enter 26 args) w := enters_of Tryz.func26 (by kernel_rfl) rfl
  have h := AnyQ.slices_SortFunc_total sortF 10 Tryz.isAgg32 Tryz.sizeOf32 (enc9 rs) (fun _ => rfl) (enc9_cell rs) d3 swo9 26 #[] g 0 cap ks.toArray w eg (cmp9_lays rs g 0 _ w) hH hg (by simp; omega)
    (fun x y h1 h2 => by rw [lt9] at h1 h2; simp at h1 h2; omega)
  refine h.mono ?_
  rintro e w' ⟨he, n, os, hw⟩
  refine ⟨he, n, os, ?_⟩
  rw [hw, ← flatK_fr]
  rfl
theorem sort9_none (fv : Value) (w : World) :
    Calls Tryz.prog 25 #[.slice none 0 0, fv] w fun e w' => e = .returned (.tuple #[]) ∧ w' = w :=
  AnyF.slices_SortFunc_none sortF none 0 fv w
theorem map_keys {es : List Ev} {rs : List Rw} (hA : AllI es rs) : (keys rs).map (rowOf rs) = rs := by
  unfold keys
  rw [List.map_map]
  conv => rhs; rw [← List.map_id rs]
  exact List.map_congr_left fun r hr => rowOf_at hA hr
/-- The rows in order. -/
def sortR (rs : List Rw) : List Rw := (sort9 (keys rs)).map (rowOf rs)
def Rise (rs : List Rw) : Prop := ∀ i j, i < j → j < rs.length → (rwAt rs i).1 < (rwAt rs j).1
theorem sortR_len (rs : List Rw) : (sortR rs).length = rs.length := by
  unfold sortR
  rw [List.length_map, (sort9_perm _).length_eq]
  simp [keys]
theorem sortR_at {rs : List Rw} {i : Nat} (h : i < rs.length) : ∃ h2 : i < (sort9 (keys rs)).length, rwAt (sortR rs) i = rowOf rs (sort9 (keys rs))[i] := by
  have hl := sortR_len rs
  have h2 : i < (sort9 (keys rs)).length := by unfold sortR at hl; rw [List.length_map] at hl; omega
  refine ⟨h2, ?_⟩
  rw [rwAt_eq (by omega)]
  unfold sortR
  rw [List.getElem_map]
theorem keys_nodup {es : List Ev} {rs : List Rw} (hA : AllI es rs) : (keys rs).Nodup := by
  rw [List.Nodup, List.pairwise_iff_getElem]
  intro i j hi hj hij he
  simp only [keys, List.length_map] at hi hj
  have := hA.nd i j hi hj (by rw [rwAt_eq hi, rwAt_eq hj]; simpa [keys] using he)
  omega
theorem sortR_rise {es : List Ev} {rs : List Rw} (hA : AllI es rs) : Rise (sortR rs) := by
  intro i j hij hj
  rw [sortR_len] at hj
  obtain ⟨h1, e1⟩ := sortR_at (rs := rs) (i := i) (by omega)
  obtain ⟨h2, e2⟩ := sortR_at (rs := rs) (i := j) hj
  rw [e1, e2, rowOf_1, rowOf_1]
  have o := (List.pairwise_iff_getElem.1 (sort9_ord (keys rs))) i j h1 h2 hij
  have nd := (List.pairwise_iff_getElem.1 ((sort9_perm (keys rs)).nodup_iff.2 (keys_nodup hA))) i j h1 h2 hij
  omega
theorem sortR_all {es : List Ev} {rs : List Rw} (hA : AllI es rs) : AllI es (sortR rs) := by
  have R := sortR_rise hA
  have mem : ∀ i, i < rs.length → rwAt (sortR rs) i ∈ rs := fun i hi => by
    obtain ⟨h1, e1⟩ := sortR_at (rs := rs) (i := i) hi
    have : (sort9 (keys rs))[i] ∈ keys rs := (sort9_perm _).mem_iff.1 (List.getElem_mem h1)
    obtain ⟨r, hr, he⟩ := List.mem_map.1 this
    rw [e1, ← he, rowOf_at hA hr]
    exact hr
  refine ⟨fun r hr => ?_, fun i j hi hj he => ?_, fun e he => ?_, by rw [sortR_len]; exact hA.len⟩
  · rw [sortR_len] at hr
    obtain ⟨q, hq, e1⟩ := List.getElem_of_mem (mem r hr)
    rw [← e1, ← rwAt_eq hq]
    exact hA.row q hq
  · rcases Nat.lt_trichotomy i j with h | h | h
    · have := R i j h hj; omega
    · exact h
    · have := R j i h hi; omega
  · obtain ⟨r, hr, h2⟩ := hA.all e he
    have m : e.2.1 ∈ sort9 (keys rs) := (sort9_perm _).mem_iff.2 (List.mem_map.2 ⟨rs[r], List.getElem_mem hr, by rw [← rwAt_eq hr]; exact h2⟩)
    obtain ⟨i, hi, e1⟩ := List.getElem_of_mem m
    have hi2 : i < rs.length := by rw [(sort9_perm _).length_eq] at hi; simpa [keys] using hi
    refine ⟨i, by rw [sortR_len]; exact hi2, ?_⟩
    obtain ⟨_, e3⟩ := sortR_at (rs := rs) (i := i) hi2
    rw [e3, rowOf_1, e1]
theorem tsort_own {es : List Ev} {rs : List Rw} (hA : AllI es rs) (v : Value) (base : Nat) (w : World) (hl : rs.length ≤ 100000) (h : w.ownsRow base 32 10 v rs.length (fr rs)) :
    Calls Tryz.prog 25 #[v, .func (.func 26) #[] #[]] w fun e w' =>
      e = .returned (.tuple #[]) ∧ w'.ownsRow base 32 10 v (sortR rs).length (fr (sortR rs)) ∧ Below base w w' := by
  obtain ⟨h0, ⟨h1, h2⟩ | ⟨g, cap, cur, h1, h2, h3, h4, h5, h6, h7⟩⟩ := h
  · obtain rfl : rs = [] := List.length_eq_zero_iff.1 h2
    subst h1
    refine (sort9_none _ w).mono ?_
    rintro e w' ⟨rfl, rfl⟩
    exact ⟨rfl, ⟨by simp [sortR, keys, sort9, fr], .inl ⟨rfl, by simp [sortR, keys, sort9]⟩⟩, Below.refl _ _⟩
  · subst h1
    have hlen := sortR_len rs
    have hk : (keys rs).length = rs.length := by simp [keys]
    have hfl := fr_len (sortR rs)
    have hH : HoldsK (enc9 rs) 10 w g 0 (keys rs).toArray := holdsK_own9 h3 (by rw [hk, map_keys hA]; exact h7)
    have hs := sort9_some g cap rs (keys rs) w (Array.getElem?_eq_some_iff.1 h3).1 (by rw [hk]; exact hl) hH
    rw [hk] at hs
    refine hs.mono ?_
    rintro e w' ⟨rfl, n, os, rfl⟩
    refine ⟨rfl, ⟨by rw [hfl], .inr ⟨g, cap, _, by rw [hlen], h2, heap_sorted9 _ h3, by rw [hlen]; exact h4, h5, by simp [putCells, h6], ?_⟩⟩, ?_⟩
    · rw [← hfl]
      exact take_putCells9 cur _ (by
        show (fr (sortR rs)).length ≤ _
        rw [hfl, hlen, h6]; exact Nat.mul_le_mul_right 10 h4)
    · exact Below.grown (Below.refl base w) (grownBy_sorted9 _) (by have := (Array.getElem?_eq_some_iff.1 h3).1; omega) (fun q hq => by cases hq; exact h2)
end Go.Proofs.YtopidlcifaenjaaGreatDoor
/-! tally.All. -/
namespace Go.Proofs.YtopidlcifaenjaaGreatDoor
open Go.RowKit
set_option linter.unusedVariables false
set_option linter.unusedSimpArgs false
set_option maxRecDepth 20000
/-- The map, the rows, and nothing else. -/
structure AllW (w0 : World) (b : Nat) (rs : List Rw) (v : Value) (w : World) : Prop where
  pm : Pm w b rs
  ow : w.ownsRow (b + 1) 32 10 v rs.length (fr rs)
  bl : Below b w0 w
  hb : b = w0.heap.size
theorem AllW.below {w0 w w' : World} {b : Nat} {rs : List Rw} {v : Value} (h : AllW w0 b rs v w) (hb : Below w.heap.size w w') : AllW w0 b rs v w' := by
  have hl := h.pm.lt
  refine ⟨h.pm.kept (hb.block _ hl), h.ow.kept (row := none) ⟨hb.os, hb.tape, hb.output, hb.size, fun k hk _ => hb.block k hk⟩ ?_, h.bl.trans (hb.mono (by omega)), h.hb⟩
  rcases v.ownBlock with _ | q
  · exact .inl rfl
  · exact .inr (by simp)
theorem infoRow9 : (Tryz.prog.info? 32).map (fun i => (i.zero, i.size, i.bytes)) = some (some (.agg (rowc 0 (fun _ => 0) 0)), 10, 80) := by kernel_rfl
theorem own_slice9 {w : World} {base sz n : Nat} {t : TypeId} {v : Value} {xs : List Value} (h : w.ownsRow base t sz v n xs) (hn : 0 < n) : ∃ q c, v = .slice (some ⟨q, 0, none⟩) n c ∧ base ≤ q := by
  obtain ⟨h0, ⟨h1, h2⟩ | ⟨g, cap, cur, h1, h2, _⟩⟩ := h
  · omega
  · exact ⟨_, _, h1, h2⟩
theorem news_row (w : World) (x : Rw) (t : TypeId) : ∀ j u, (rwc x)[j]? = some u → (w.alloc (.cells (rowc x.1 x.2.1 x.2.2) t)).cell? ((⟨w.heap.size, 0, none⟩ : Addr).add j) = some u := by
  intro j u hj
  have hb := Deep.blk_alloc_new w (.cells (rowc x.1 x.2.1 x.2.2) t)
  have hc := blk_cell hb (i := j) (v := u) (by rw [← hj]; unfold rwc; rw [Array.getElem?_toList])
  by_cases h0 : j = 0
  · subst h0; simpa [Addr.add] using hc
  · simpa [Addr.add, h0] using hc
theorem rwc_ones (x : Rw) : ∀ v ∈ rwc x, v.oneCell' = true := by
  intro v hv
  unfold rwc rowc at hv
  simp only [List.mem_cons, List.not_mem_nil, or_false] at hv
  rcases hv with rfl | rfl | rfl | rfl | rfl | rfl | rfl | rfl | rfl | rfl <;> rfl
/-- Row.add at the row of an event: what All holds behind it. -/
theorem AllW.added {w0 w w' : World} {b q r c : Nat} {rs : List Rw} {kd at' : Int} {e : Ending} (h : AllW w0 b rs (.slice (some ⟨q, 0, none⟩) rs.length c) w) (hr : r < rs.length)
    (hq : b + 1 ≤ q) (ha : AddAt (b + 1) (.slice (some ⟨q, 0, none⟩) rs.length c) rs r kd at' w e w') : AllW w0 b (rs.set r ((rwAt rs r).1, addk (rwAt rs r).2.1 kd, at')) (.slice (some ⟨q, 0, none⟩) rs.length c) w' := by
  obtain ⟨_, ho, hg⟩ := ha
  refine ⟨?_, by rw [List.length_set]; exact ho, Below.grown h.bl hg (by rw [h.hb]; exact h.bl.size) (fun k hk => ?_), h.hb⟩
  · refine (h.pm.kept (hg.block b h.pm.lt (by simp [Value.ownBlock]; omega))).same (by simp) fun i hi => ?_
    by_cases hir : i = r
    · subst hir; rw [rwAt_set _ hi]
    · rw [rwAt_ne _ hir]
  · simp [Value.ownBlock] at hk
    have := h.hb
    omega
/-- tally.All: a row for each goroutine that has an event, rising. -/
def TallPost (es : List Ev) (w : World) (e : Ending) (w' : World) : Prop :=
  ∃ v rs, e = .returned v ∧ w'.ownsRow (w.heap.size + 1) 32 10 v rs.length (fr rs) ∧ AllI es rs ∧ Rise rs ∧ Below w.heap.size w w'
set_option maxHeartbeats 8000000 in
theorem tall_any (v : Value) (es : List Ev) (w : World) (hr : RdE w v es) (hl : es.length ≤ 1000) :
    Calls Tryz.prog 14 #[v] w (TallPost es w) := by
  have RD := hid hr
  obtain ⟨a, c, rfl, _, -⟩ := hr
  obtain ⟨n, hn⟩ : ∃ n, n = es.length := ⟨_, rfl⟩
  have HN := hid hn
  rw [← hn] at hl ⊢
  clear hn
  have MK := mkM9
  have P0 := hid (show AllW w w.heap.size [] (.slice none 0 0) (w.alloc (.map #[] 0)) from ⟨Pm.new w, World.ownsRow_nil _ _ _ _, (Below.refl _ _).alloc (Nat.le_refl _) _, rfl⟩)
  obtain ⟨i0, hi, hz0, hz1, hz2⟩ := info_parts infoRow9
  have HI := hid (And.intro hi (And.intro hz0 (And.intro hz1 hz2)))
  clear hi hz0 hz1 hz2
  go_enter Tryz.func14, Tryz.ntmps14
  go_wp2_with fail
  clear MK
  obtain ⟨b, hb⟩ : ∃ b, b = w.heap.size := ⟨_, rfl⟩
  rw [← hb] at P0 ⊢
  have HB := hid hb
  clear hb
  go_loopw [3, 12] (fun v3 i wr => ∃ (k : Nat) (rs : List Rw) (a3 : Option Addr) (m c3 : Nat), k ≤ n ∧ i = .int .i64 k ∧ .slice a3 m c3 = v3 ∧ Hid (m = rs.length) ∧ Hid (AllI (es.take k) rs) ∧ Hid (AllW w b rs (.slice a3 m c3) wr)) (fun _ i _ => n - (intOf i).toNat)
  case atStart => exact ⟨0, [], none, 0, 0, by omega, rfl, rfl, hid rfl, hid AllI.nil, P0⟩
  case round =>
    obtain ⟨k, rs, a3, m, c3, hk, rfl, rfl, HM, AI, W⟩ := hrel
    by_cases hlt : k < n
    · obtain ⟨a', c', e, _, hh⟩ := RD.out.below (w' := wr) (by rw [← HB.out]; exact W.out.bl)
      simp only [Value.slice.injEq] at e
      obtain ⟨rfl, e9, rfl⟩ := e
      clear e9
      obtain ⟨q, off, rfl, _, hc⟩ := hh (by have := HN.out; omega)
      obtain ⟨h0, h1, h2, h3, h4⟩ := hc k (by have := HN.out; omega)
      have T := hid (ev_take (es := es) (k := k) (by have := HN.out; omega))
      have LK := hid (show (es.take k).length = k by rw [List.length_take]; have := HN.out; omega)
      generalize evAt es k = ev at *
      obtain ⟨kd, gg, mm, pp, vv⟩ := ev
      simp only at h0 h1 h2 h3 h4
      have W2 := hid (W.out.below ((Below.refl wr.heap.size wr).alloc (Nat.le_refl _) (.cells #[.int .i64 kd, .int .i64 gg, .int .i64 mm, .int .i64 pp, .int .i64 vv] 43)))
      have hrl := HM.out
      subst hrl
      clear HM
      have hbx := heap_alloc_new wr (.cells #[.int .i64 kd, .int .i64 gg, .int .i64 mm, .int .i64 pp, .int .i64 vv] 43)
      clear hh hc
      by_cases hs : ∃ r, r < rs.length ∧ (rwAt rs r).1 = gg
      · obtain ⟨r, hr, hg⟩ := hs
        obtain ⟨q3, c9, e, hq3⟩ := own_slice9 W2.out.ow (by omega)
        simp only [Value.slice.injEq] at e
        obtain ⟨rfl, _, rfl⟩ := e
        have L1 := W2.out.pm.hit hr hg true
        have L2 : ∀ y, Pm y b rs → (Instr.lookup 40 (.map (some b)) (.int .i64 gg) false).run Tryz.prog y = .ok (.int .i64 r) y := fun y hy => by simpa using hy.hit hr hg false
        simp only [if_true, Bool.false_eq_true, if_false] at L1
        have hr2 : (r : Int) < (rs.length : Int) := by omega
        have hr0 : (0 : Int) ≤ (r : Int) := by omega
        have W3 := hid (W2.out.below (w' := (wr.alloc (.cells #[.int .i64 kd, .int .i64 gg, .int .i64 mm, .int .i64 pp, .int .i64 vv] 43)).drew) (Quiet.below ⟨1, rfl⟩ _))
        have L2 := L2 _ W3.out.pm
        have AD := hid (add_at (b + 1) q3 c3 rs r hr kd gg mm pp vv k _ W3.out.ow (fun j _ => by
          rw [(AI.out.row r hr).1]
          have := cntf_range (rwAt rs r).1 (es.take k) j
          have := LK.out
          omega))
        have A2 := hid (AI.out.hit (kd, gg, mm, pp, vv) hr hg)
        clear AI W W2 hg
        go_wp2_with fail
        go_region_with (go_at_call 22; (with_reducible refine AD.out.mono ?_); rintro e w6 ⟨rfl, ho6, gr6⟩)
        all_goals
          have W6 := hid (W3.out.added hr hq3 ⟨rfl, ho6, gr6⟩)
          clear ho6 gr6 W3 AD L1 L2 hbx
          go_wp2
          go_roundw
          case rel => exact ⟨k + 1, _, some ⟨q3, 0, none⟩, rs.length, c3, by omega, by go_num, rfl, hid (by simp), hid (by rw [T.out]; have := A2.out; rw [LK.out] at this; exact this), W6⟩
          case measure => simp [intOf]; omega
      · have hno : ∀ r, r < rs.length → (rwAt rs r).1 ≠ gg := fun r hr hg => hs ⟨r, hr, hg⟩
        have L1 := W2.out.pm.miss hno true
        simp only [if_true] at L1
        obtain ⟨w3, U1, pm3, o3⟩ := W2.out.pm.put hno (gg, fun _ => 0, 0) rfl
        have hsb := W.out.pm.lt
        obtain ⟨s, hs0⟩ : ∃ s, s = wr.heap.size := ⟨_, rfl⟩
        have OL := hid (World.ownsRow.lt W.out.ow)
        have BX := hid (show w3.heap[s]? = some (.cells #[.int .i64 kd, .int .i64 gg, .int .i64 mm, .int .i64 pp, .int .i64 vv] 43 (0, 0)) from by
          rw [hs0, o3.block _ (by simp) (by omega) (by omega)]
          exact Deep.blk_alloc_new _ _)
        have OW3 := hid (show w3.ownsRow (b + 1) 32 10 (.slice a3 rs.length c3) rs.length (fr rs) from W2.out.ow.kept (row := some b) ⟨o3.os, o3.tape, o3.output, o3.size, fun k hk hn => o3.block k hk (fun e => hn (by rw [e])) (fun e => hn (by rw [e]))⟩ (by
          rcases hob : (Value.slice a3 rs.length c3).ownBlock with _ | q
          · exact .inl rfl
          · have := OL.out q hob
            exact .inr (by simp; omega)))
        have B3 := hid (show Below b w w3 from W2.out.bl.trans ⟨o3.os, o3.tape, o3.output, o3.size, fun k hk => o3.block k (by simp; omega) (by omega) (by omega)⟩)
        have NW := hid (news_row w3 (gg, fun _ => 0, 0) 32)
        have OW4 := hid (World.ownsRow.alloc OW3.out (.cells (rowc gg (fun _ => 0) 0) 32))
        have s3 := hid (show w3.heap.size ≥ wr.heap.size + 1 from by have := o3.size; simpa using this)
        have PM3 := hid pm3
        have A2 := hid (AI.out.new (kd, gg, mm, pp, vv) hno)
        have RL := hid (show rs.length ≤ k from by have := AI.out.len; rw [LK.out] at this; exact this)
        have e1 : w3.cell? ⟨wr.heap.size, 1, none⟩ = some (.int .i64 gg) := by rw [← hs0]; exact blk_cell BX.out rfl
        have hst : (wr.alloc (.cells #[.int .i64 kd, .int .i64 gg, .int .i64 mm, .int .i64 pp, .int .i64 vv] 43)).heap.size = s + 1 := by simp [hs0]
        clear AI W W2 OW3 hno hs pm3 o3
        go_wp2_with (at_builtin; refine wpList_append_own_at _ rfl _ _ 38 rfl (b + 1) 32 i0 _ 10 80 Tryz.underlying38 HI.out.1 HI.out.2.1 HI.out.2.2.1 HI.out.2.2.2 rfl (by decide) _ _ _ rfl OW4.out ⟨w3.heap.size, 0, none⟩ 1 1 (rwc (gg, fun _ => 0, 0)) rfl rfl NW.out (rwc_ones _) ?c1 ?c2 ?c3 ?_)
        case c1 => have := RL.out; unfold maxLen; omega
        case c2 => have := RL.out; omega
        case c3 => have := s3.out; simp; omega
        intro v' w6 hown6 hgrow _ _
        have BX6 := hid (show w6.heap[s]? = some (.cells #[.int .i64 kd, .int .i64 gg, .int .i64 mm, .int .i64 pp, .int .i64 vv] 43 (0, 0)) from by
          rw [hgrow.block s (by have := s3.out; simp; omega) (fun e => by have := (OL.out s e.symm).2; omega)]
          exact (Below.heap_alloc _ _ _ (by have := s3.out; omega)).trans BX.out)
        have own6 : w6.ownsRow (b + 1) 32 10 v' (rs ++ [(gg, fun _ => 0, 0)]).length (fr (rs ++ [(gg, fun _ => 0, 0)])) := by
          rw [List.length_append, fr_app]
          simpa [fr] using hown6
        obtain ⟨q3, c9, rfl, hq3⟩ := own_slice9 own6 (by simp)
        have W6 := hid (show AllW w b (rs ++ [(gg, fun _ => 0, 0)]) (.slice (some ⟨q3, 0, none⟩) (rs ++ [(gg, fun _ => 0, 0)]).length c9) w6 from ⟨by
            refine PM3.out.kept ?_
            rw [hgrow.block b (by have := s3.out; simp; omega) (fun e => by have := (OL.out b e.symm).1; omega)]
            exact Below.heap_alloc _ _ _ (by have := s3.out; omega), own6,
          (B3.out.trans ((Below.refl _ _).alloc (by have := s3.out; omega) _)).grown hgrow (by have := s3.out; have := B3.out.size; have := HB.out; simp; omega) (fun q hq => by have := (OL.out q hq).1; have := HB.out; omega), HB.out⟩)
        have hr : rs.length < (rs ++ [((gg, fun _ => 0, 0) : Rw)]).length := by simp
        have hg : (rwAt (rs ++ [((gg, fun _ => 0, 0) : Rw)]) rs.length) = (gg, fun _ => 0, 0) := rwAt_end _ _
        have A3 : AllI (es.take k ++ [(kd, gg, mm, pp, vv)]) ((rs ++ [((gg, fun _ => 0, 0) : Rw)]).set rs.length ((rwAt (rs ++ [((gg, fun _ => 0, 0) : Rw)]) rs.length).1, addk (rwAt (rs ++ [((gg, fun _ => 0, 0) : Rw)]) rs.length).2.1 kd, (k : Int))) := by
          rw [hg]
          have := A2.out
          rw [LK.out] at this
          exact this
        have A4 := hid A3
        have z0 : w6.cell? ⟨wr.heap.size, 0, none⟩ = some (.int .i64 kd) := by rw [← hs0]; exact blk_cell BX6.out rfl
        have z1 : w6.cell? ⟨wr.heap.size, 1, none⟩ = some (.int .i64 gg) := by rw [← hs0]; exact blk_cell BX6.out rfl
        have z2 : w6.cell? ⟨wr.heap.size, 2, none⟩ = some (.int .i64 mm) := by rw [← hs0]; exact blk_cell BX6.out rfl
        have z3 : w6.cell? ⟨wr.heap.size, 3, none⟩ = some (.int .i64 pp) := by rw [← hs0]; exact blk_cell BX6.out rfl
        have z4 : w6.cell? ⟨wr.heap.size, 4, none⟩ = some (.int .i64 vv) := by rw [← hs0]; exact blk_cell BX6.out rfl
        clear own6 hown6 hgrow BX6 BX PM3 B3 OW4 NW OL A2 A3 L1 U1 e1 hbx hst s3
        generalize hrl : rs.length = r at *
        generalize rs ++ [((gg, fun _ => 0, 0) : Rw)] = rs' at *
        have W7 := hid (W6.out.below (w' := w6.drew) (Quiet.below ⟨1, rfl⟩ _))
        have L2 := W7.out.pm.hit hr (show (rwAt rs' r).1 = gg by rw [hg]) false
        simp only [Bool.false_eq_true, if_false] at L2
        have hr2 : (r : Int) < (rs'.length : Int) := by omega
        have hr0 : (0 : Int) ≤ (r : Int) := by omega
        have AD := hid (add_at (b + 1) q3 c9 rs' r hr kd gg mm pp vv k _ W7.out.ow (fun j _ => by rw [hg]; exact ⟨by simp, by simp⟩))
        clear hg W6
        go_wp2_with fail
        go_region_with (go_at_call 22; (with_reducible refine AD.out.mono ?_); rintro e w8 ⟨rfl, ho6, gr6⟩)
        all_goals
          have W8 := hid (W7.out.added hr hq3 ⟨rfl, ho6, gr6⟩)
          clear ho6 gr6 W7 AD L2 z0 z1 z2 z3 z4
          go_wp2
          go_roundw
          case rel => exact ⟨k + 1, _, some ⟨q3, 0, none⟩, rs'.length, c9, by omega, by go_num, rfl, hid (by simp), hid (by rw [T.out]; exact A4.out), W8⟩
          case measure => simp [intOf]; omega
    · obtain rfl : k = n := by omega
      rw [List.take_of_length_le (by have := HN.out; omega)] at AI
      obtain rfl := HM.out
      have SO := hid (tsort_own AI.out _ (b + 1) wr (by have := AI.out.len; have := HN.out; omega) W.out.ow)
      have A2 := hid (And.intro (sortR_all AI.out) (sortR_rise AI.out))
      have BL := hid W.out.bl
      clear AI
      go_wp2_with fail
      refine SO.out.mono ?_
      rintro e w6 ⟨rfl, ho, hb⟩
      have FIN := hid (And.intro ho (BL.out.trans (hb.mono (by omega))))
      clear ho hb SO W
      go_wp2
      go_ret
      exact ⟨_, _, rfl, by rw [← HB.out]; exact FIN.out.1, A2.out.1, A2.out.2, by rw [← HB.out]; exact FIN.out.2⟩
end Go.Proofs.YtopidlcifaenjaaGreatDoor
/-! The map that TallyRows counts rows in: one for each row that was seen. -/
namespace Go.Proofs.YtopidlcifaenjaaGreatDoor
open Go.RowKit
set_option linter.unusedVariables false
set_option linter.unusedSimpArgs false
set_option maxRecDepth 20000
/-- The first k rows are counted once. -/
def Sm (w : World) (b : Nat) (rs : List Rw) (k : Nat) : Prop := ∃ g, MapI w b .i64 g k ∧ ∀ a v, g a = some v ↔ ∃ r : Nat, r < k ∧ (rwAt rs r).1 = a ∧ v = .int .i64 1
theorem Sm.new (w : World) (rs : List Rw) : Sm (w.alloc (.map #[] 0)) w.heap.size rs 0 := ⟨_, MapI.new w .i64, fun a v => by simp⟩
theorem Sm.lt {w : World} {b : Nat} {rs : List Rw} {k : Nat} (h : Sm w b rs k) : b < w.heap.size := by obtain ⟨g, h1, _⟩ := h; exact h1.lt
theorem Sm.kept {w w' : World} {b : Nat} {rs : List Rw} {k : Nat} (h : Sm w b rs k) (e : w'.heap[b]? = w.heap[b]?) : Sm w' b rs k := by obtain ⟨g, h1, h2⟩ := h; exact ⟨g, h1.kept e, h2⟩
theorem Sm.none {b : Nat} {rs : List Rw} {k : Nat} {g : Int → Option Value} (h2 : ∀ a v, g a = some v ↔ ∃ r : Nat, r < k ∧ (rwAt rs r).1 = a ∧ v = .int .i64 1) (hR : Rise rs) (hk : k < rs.length) : g (rwAt rs k).1 = Option.none := by
  rcases hg : g (rwAt rs k).1 with _ | v
  · rfl
  · obtain ⟨r, hr, h3, _⟩ := (h2 _ v).1 hg
    have := hR r k hr hk
    omega
theorem Sm.miss {w : World} {b : Nat} {rs : List Rw} {k : Nat} (h : Sm w b rs k) (hR : Rise rs) (hk : k < rs.length) : (Instr.lookup 40 (.map (some b)) (.int .i64 (rwAt rs k).1) false).run Tryz.prog w = .ok (.int .i64 0) w := by
  obtain ⟨g, h1, h2⟩ := h
  exact h1.look_miss undM9 undTI9 zeroM9 (Sm.none (b := b) h2 hR hk) false
theorem Sm.hit {w : World} {b : Nat} {rs : List Rw} {k : Nat} (h : Sm w b rs k) {a : Int} {r : Nat} (hr : r < k) (ha : (rwAt rs r).1 = a) : (Instr.lookup 40 (.map (some b)) (.int .i64 a) false).run Tryz.prog w = .ok (.int .i64 1) w := by
  obtain ⟨g, h1, h2⟩ := h
  exact h1.look_hit undM9 undTI9 ((h2 a _).2 ⟨r, hr, ha, rfl⟩) false
theorem Sm.put {w : World} {b : Nat} {rs : List Rw} {k : Nat} (h : Sm w b rs k) (hR : Rise rs) (hk : k < rs.length) : ∃ w', (Instr.mapUpdate 40 (.map (some b)) (.int .i64 (rwAt rs k).1) (.int .i64 1)).run Tryz.prog w = .ok () w' ∧ Sm w' b rs (k + 1) ∧ Only b b w w' := by
  obtain ⟨g, h1, h2⟩ := h
  obtain ⟨w', r, m, o⟩ := h1.store undM9 undTI9 (rwAt rs k).1 (.int .i64 1)
  have hn := Sm.none (b := b) h2 hR hk
  rw [if_pos hn] at m
  refine ⟨w', r, ⟨_, m, fun c v => ?_⟩, o⟩
  by_cases hc : c = (rwAt rs k).1
  · subst hc
    rw [updG_same]
    constructor
    · intro hv
      simp only [Option.some.injEq] at hv
      exact ⟨k, by omega, rfl, hv.symm⟩
    · rintro ⟨q, hq, h3, rfl⟩
      rfl
  · rw [updG_ne _ _ hc, h2]
    constructor
    · rintro ⟨q, hq, h3, h4⟩; exact ⟨q, by omega, h3, h4⟩
    · rintro ⟨q, hq, h3, h4⟩
      rcases Nat.lt_or_ge q k with l | l
      · exact ⟨q, l, h3, h4⟩
      · obtain rfl : q = k := by omega
        exact absurd h3.symm hc
/-- What stands while the law looks at the rows. -/
structure TrW (w0 : World) (base : Nat) (v : Value) (b : Nat) (rs : List Rw) (k : Nat) (w : World) : Prop where
  ow : w.ownsRow base 32 10 v rs.length (fr rs)
  sm : Sm w b rs k
  bl : Below w0.heap.size w0 w
  qb : ∀ q, v.ownBlock = some q → q < b
  hb : w0.heap.size ≤ b
theorem TrW.below {w0 w w' : World} {base b k : Nat} {v : Value} {rs : List Rw} (h : TrW w0 base v b rs k w) (hb : Below w.heap.size w w') : TrW w0 base v b rs k w' :=
  ⟨h.ow.kept (row := none) ⟨hb.os, hb.tape, hb.output, hb.size, fun k hk _ => hb.block k hk⟩ (by rcases v.ownBlock with _ | q; exact .inl rfl; exact .inr (by simp)), h.sm.kept (hb.block _ h.sm.lt), h.bl.trans (hb.mono h.bl.size), h.qb, h.hb⟩
theorem TrW.cell {w0 w : World} {base q c b k r : Nat} {rs : List Rw} (h : TrW w0 base (.slice (some ⟨q, 0, none⟩) rs.length c) b rs k w) (hr : r < rs.length) (j : Nat) (hj : j < 10) : w.cell? ⟨q, r * 10 + j, none⟩ = (rwc (rwAt rs r))[j]? := by
  rw [← fr_get rs r j hr hj]
  exact h.ow.cellAt _ (by omega)
theorem TrW.put {w0 w w' : World} {base b k : Nat} {v : Value} {rs : List Rw} (h : TrW w0 base v b rs k w) (o : Only b b w w') (s : Sm w' b rs (k + 1)) : TrW w0 base v b rs (k + 1) w' :=
  ⟨h.ow.kept (row := some b) ⟨o.os, o.tape, o.output, o.size, fun k hk hn => o.block k hk (fun e => hn (by rw [e])) (fun e => hn (by rw [e]))⟩ (by
    rcases hv : v.ownBlock with _ | q
    · exact .inl rfl
    · have := h.qb q hv
      exact .inr (by simp; omega)), s,
    h.bl.trans ⟨o.os, o.tape, o.output, o.size, fun k hk => o.block k (Nat.lt_of_lt_of_le hk h.bl.size) (by have := h.hb; omega) (by have := h.hb; omega)⟩, h.qb, h.hb⟩
end Go.Proofs.YtopidlcifaenjaaGreatDoor
