/- The document's source by value: what stands between; Ready. Written by wip/tools/gen12.py. -/
import Derived.Test.YtaogpodncphpjaaRef12C
import Derived.Deep.RegionWith
namespace Go.Proofs.Ytaogpodncphpjaa
set_option linter.unusedVariables false
set_option linter.unusedSimpArgs false
open Go.RowKit
theorem there_of {w : World} {p o k : Nat} {cs : Array Value} {t : TypeId} (h : w.heap[p]? = some (.cells cs t (0, 0))) (hs : o + k ≤ cs.size) : w.there p o k := fun j hj => by
  refine ⟨?_, blk_free h⟩
  have : w.cell? ⟨p, o + j, none⟩ = some cs[o + j] := blk_cell h (by simp)
  rw [this]; rfl
theorem results_c2 {P : Program} {fn : Func} {p u v : Tmp} {ty : TypeId} (h : fn.results = #[.cell p ty, .tmp u, .tmp v]) (tmps : Array Value) (w : World) (g : Nat) (t : TypeId) (cs : Array Value) (fr : Nat × Nat) (d : TypeDesc)
    (hp : tmps.getD p undef = .pointer (some ⟨g, 0, none⟩)) (hg : w.heap[g]? = some (.cells cs t fr))
    (hu : P.underlying ty = some d) (hd : (match d with | .struct _ | .array _ _ => true | _ => false) = true) (hi : (P.info? ty).map (·.size) = some cs.size) (b c : Value) (hb : tmps.getD u undef = b) (hc : tmps.getD v undef = c) :
    (results fn tmps).run P w = .ok (.tuple #[.agg cs, b, c]) w := by
  have hp' : tmps[p]?.getD undef = .pointer (some ⟨g, 0, none⟩) := by simpa using hp
  have hb' : tmps[u]?.getD undef = b := by simpa using hb
  have hc' : tmps[v]?.getD undef = c := by simpa using hc
  simp [results, h, hp', hb', hc', asAddr, run_loadVar_row w g t ty cs fr d hg hu hd hi, Result.andThen, Sem.run_bind]
section
variable {w y : World} {now : Int} {n o n' o' : Nat} {vL vW vS vL0 vW0 vS0 vL' vW' vS' : Value} {D : List Tr} {V : List (Int × Int)} {S : List Int} {cs : Array Value}
theorem K12.st3 (h : K12 w y (sx now n vL o vW vS)) : K12 w (y.setCells w.heap.size 1 [.int .i64 n', vL', .int .u64 o']) (sx now n' vL' o' vW vS) :=
  ((h.set (cs' := sx now n' vL o vW vS) 1 (.int .i64 n') rfl).set (cs' := sx now n' vL' o vW vS) 2 vL' rfl).set (cs' := sx now n' vL' o' vW vS) 3 (.int .u64 o') rfl
theorem K12.st2 (h : K12 w y (sx now n vL o vW vS)) : K12 w (y.setCells w.heap.size 4 [vW', vS']) (sx now n vL o vW' vS') :=
  (h.set (cs' := sx now n vL o vW' vS) 4 vW' rfl).set (cs' := sx now n vL o vW' vS') 5 vS' rfl
theorem D12.st3 (h : D12 y vL vW vS D V S) (a b c : Value) (i : Nat) (h0 : (∀ q, vL0.ownBlock = some q → q < w.heap.size) ∧ (∀ q, vW0.ownBlock = some q → q < w.heap.size) ∧ (∀ q, vS0.ownBlock = some q → q < w.heap.size))
    (k1 : Aft w y vL vL0) (k2 : Aft w y vW vW0) (k3 : Aft w y vS vS0) : D12 (y.setCells w.heap.size i [a, b, c]) vL vW vS D V S := by
  have e1 := k1.ne h0.1 (g := w.heap.size) (by omega) (by omega)
  have e2 := k2.ne h0.2.1 (g := w.heap.size) (by omega) (by omega)
  have e3 := k3.ne h0.2.2 (g := w.heap.size) (by omega) (by omega)
  exact ((h.cell _ _ _ e1 e2 e3).cell _ _ _ e1 e2 e3).cell _ _ _ e1 e2 e3
theorem D12.st2 (h : D12 y vL vW vS D V S) (a b : Value) (i : Nat) (h0 : (∀ q, vL0.ownBlock = some q → q < w.heap.size) ∧ (∀ q, vW0.ownBlock = some q → q < w.heap.size) ∧ (∀ q, vS0.ownBlock = some q → q < w.heap.size))
    (k1 : Aft w y vL vL0) (k2 : Aft w y vW vW0) (k3 : Aft w y vS vS0) : D12 (y.setCells w.heap.size i [a, b]) vL vW vS D V S := by
  have e1 := k1.ne h0.1 (g := w.heap.size) (by omega) (by omega)
  have e2 := k2.ne h0.2.1 (g := w.heap.size) (by omega) (by omega)
  have e3 := k3.ne h0.2.2 (g := w.heap.size) (by omega) (by omega)
  exact (h.cell _ _ _ e1 e2 e3).cell _ _ _ e1 e2 e3
theorem sc3_size (y : World) (p i : Nat) (a b c : Value) : (y.setCells p i [a, b, c]).heap.size = y.heap.size := by simp [World.setCells]
theorem sc2_size (y : World) (p i : Nat) (a b : Value) : (y.setCells p i [a, b]).heap.size = y.heap.size := by simp [World.setCells]
theorem sc3_other (y : World) (p i q : Nat) (a b c : Value) (h : q ≠ p) : (y.setCells p i [a, b, c]).heap[q]? = y.heap[q]? := by
  simp only [World.setCells]
  rw [heap_setCell_other _ _ _ _ (by simpa using h), heap_setCell_other _ _ _ _ (by simpa using h), heap_setCell_other _ _ _ _ (by simpa using h)]
theorem set6s {w : World} {g : Nat} (h : w.heap[g]? = some (.cells sz 35 (0, 0))) (u0 u1 u2 u3 u4 u5 : Value) : ((((((w.setCell ⟨g, 0, none⟩ u0).setCell ⟨g, 1, none⟩ u1).setCell ⟨g, 2, none⟩ u2).setCell ⟨g, 3, none⟩ u3).setCell ⟨g, 4, none⟩ u4).setCell ⟨g, 5, none⟩ u5).heap[g]? = some (.cells #[u0, u1, u2, u3, u4, u5] 35 (0, 0)) := by
  have h0 := blk_set (i := 0) u0 h (show (sz : Array Value).setIfInBounds 0 u0 = #[u0, .int .i64 0, .slice none 0 0, .int .u64 0, .slice none 0 0, .slice none 0 0] from rfl)
  have h1 := blk_set (i := 1) u1 h0 (show (#[u0, .int .i64 0, .slice none 0 0, .int .u64 0, .slice none 0 0, .slice none 0 0] : Array Value).setIfInBounds 1 u1 = #[u0, u1, .slice none 0 0, .int .u64 0, .slice none 0 0, .slice none 0 0] from rfl)
  have h2 := blk_set (i := 2) u2 h1 (show (#[u0, u1, .slice none 0 0, .int .u64 0, .slice none 0 0, .slice none 0 0] : Array Value).setIfInBounds 2 u2 = #[u0, u1, u2, .int .u64 0, .slice none 0 0, .slice none 0 0] from rfl)
  have h3 := blk_set (i := 3) u3 h2 (show (#[u0, u1, u2, .int .u64 0, .slice none 0 0, .slice none 0 0] : Array Value).setIfInBounds 3 u3 = #[u0, u1, u2, u3, .slice none 0 0, .slice none 0 0] from rfl)
  have h4 := blk_set (i := 4) u4 h3 (show (#[u0, u1, u2, u3, .slice none 0 0, .slice none 0 0] : Array Value).setIfInBounds 4 u4 = #[u0, u1, u2, u3, u4, .slice none 0 0] from rfl)
  exact blk_set (i := 5) u5 h4 (show (#[u0, u1, u2, u3, u4, .slice none 0 0] : Array Value).setIfInBounds 5 u5 = #[u0, u1, u2, u3, u4, u5] from rfl)
/-- The result's six cells, one by one. -/
abbrev ch6 (y : World) (g : Nat) (now : Int) (n : Nat) (vL : Value) (o : Nat) (vW vS : Value) : World := (((((y.setCell ⟨g, 0, none⟩ (.int .i64 now)).setCell ⟨g, 1, none⟩ (.int .i64 n)).setCell ⟨g, 2, none⟩ vL).setCell ⟨g, 3, none⟩ (.int .u64 o)).setCell ⟨g, 4, none⟩ vW).setCell ⟨g, 5, none⟩ vS
theorem K12.fin6 (h : K12 w y (sx now n vL o vW vS)) (hd : D12 y vL vW vS D V S) (rs : List Value) (h0 : (∀ q, vL0.ownBlock = some q → q < w.heap.size) ∧ (∀ q, vW0.ownBlock = some q → q < w.heap.size) ∧ (∀ q, vS0.ownBlock = some q → q < w.heap.size))
    (k1 : Aft w y vL vL0) (k2 : Aft w y vW vW0) (k3 : Aft w y vS vS0) :
    P12 w vL0 vW0 vS0 now n o D V S rs (.returned (.tuple (.agg (sx now n vL o vW vS) :: rs).toArray)) (ch6 y (w.heap.size + 1) now n vL o vW vS) := by
  have e1 := k1.ne h0.1 (g := w.heap.size + 1) (by omega) (by omega)
  have e2 := k2.ne h0.2.1 (g := w.heap.size + 1) (by omega) (by omega)
  have e3 := k3.ne h0.2.2 (g := w.heap.size + 1) (by omega) (by omega)
  have hs : (ch6 y (w.heap.size + 1) now n vL o vW vS).heap.size = y.heap.size := by simp [ch6]
  have bs : ∀ (W : World) (i : Nat) (v : Value), Below w.heap.size w W → Below w.heap.size w (W.setCell ⟨w.heap.size + 1, i, none⟩ v) := fun W i v hb => hb.setCell (p := ⟨w.heap.size + 1, i, none⟩) (by simp) v
  refine ⟨_, _, _, rfl, (((((hd.cell _ _ _ e1 e2 e3).cell _ _ _ e1 e2 e3).cell _ _ _ e1 e2 e3).cell _ _ _ e1 e2 e3).cell _ _ _ e1 e2 e3).cell _ _ _ e1 e2 e3, bs _ _ _ (bs _ _ _ (bs _ _ _ (bs _ _ _ (bs _ _ _ (bs _ _ _ h.below))))), ?_, ?_, ?_⟩
  · rw [hs]; exact fun q hq => (k1 q hq).imp id fun h => by omega
  · rw [hs]; exact fun q hq => (k2 q hq).imp id fun h => by omega
  · rw [hs]; exact fun q hq => (k3 q hq).imp id fun h => by omega
/-- Between: the box's cells, where the three lie, what they hold. -/
structure Q12 (w y : World) (cs : Array Value) (vL vW vS vL0 vW0 vS0 : Value) (D : List Tr) (V : List (Int × Int)) (S : List Int) : Prop where
  k : K12 w y cs
  d : D12 y vL vW vS D V S
  a1 : Aft w y vL vL0
  a2 : Aft w y vW vW0
  a3 : Aft w y vS vS0
  h0 : (∀ q, vL0.ownBlock = some q → q < w.heap.size) ∧ (∀ q, vW0.ownBlock = some q → q < w.heap.size) ∧ (∀ q, vS0.ownBlock = some q → q < w.heap.size)
theorem Q12.start (h : D12 w vL vW vS D V S) (hk : K12 w y (sx now n vL o vW vS)) : Q12 w y (sx now n vL o vW vS) vL vW vS vL vW vS D V S :=
  ⟨hk, h.below hk.below, .refl _ _ _, .refl _ _ _, .refl _ _ _, h.oL, h.oW, h.oS⟩
theorem Q12.mono {y' : World} {cs : Array Value} (h : Q12 w y cs vL vW vS vL0 vW0 vS0 D V S) (hb : Below y.heap.size y y') : Q12 w y' cs vL vW vS vL0 vW0 vS0 D V S :=
  ⟨h.k.mono hb, h.d.below hb, h.a1.mono hb.size, h.a2.mono hb.size, h.a3.mono hb.size, h.h0⟩
theorem Q12.fst3 (h : Q12 w y (sx now n vL' o vW vS) vL vW vS vL0 vW0 vS0 D V S) : Q12 w (y.setCells w.heap.size 1 [.int .i64 n, vL, .int .u64 o']) (sx now n vL o' vW vS) vL vW vS vL0 vW0 vS0 D V S :=
  ⟨h.k.st3, h.d.st3 _ _ _ _ h.h0 h.a1 h.a2 h.a3, h.a1.mono (by rw [sc3_size]; exact Nat.le_refl _), h.a2.mono (by rw [sc3_size]; exact Nat.le_refl _), h.a3.mono (by rw [sc3_size]; exact Nat.le_refl _), h.h0⟩
theorem Q12.fst2 (h : Q12 w y (sx now n vL o vW' vS') vL vW vS vL0 vW0 vS0 D V S) : Q12 w (y.setCells w.heap.size 4 [vW, vS]) (sx now n vL o vW vS) vL vW vS vL0 vW0 vS0 D V S :=
  ⟨h.k.st2, h.d.st2 _ _ _ h.h0 h.a1 h.a2 h.a3, h.a1.mono (by rw [sc2_size]; exact Nat.le_refl _), h.a2.mono (by rw [sc2_size]; exact Nat.le_refl _), h.a3.mono (by rw [sc2_size]; exact Nat.le_refl _), h.h0⟩
theorem Q12.fin (h : Q12 w y (sx now n vL o vW vS) vL vW vS vL0 vW0 vS0 D V S) (rs : List Value) : P12 w vL0 vW0 vS0 now n o D V S rs (.returned (.tuple (.agg (sx now n vL o vW vS) :: rs).toArray)) (y.setRow (w.heap.size + 1) (sx now n vL o vW vS)) := h.k.fin h.d rs h.h0 h.a1 h.a2 h.a3
theorem Q12.fin6 (h : Q12 w y (sx now n vL o vW vS) vL vW vS vL0 vW0 vS0 D V S) (rs : List Value) : P12 w vL0 vW0 vS0 now n o D V S rs (.returned (.tuple (.agg (sx now n vL o vW vS) :: rs).toArray)) (ch6 y (w.heap.size + 1) now n vL o vW vS) := h.k.fin6 h.d rs h.h0 h.a1 h.a2 h.a3
theorem Q12.aft {y' : World} {v v1 v0 : Value} (h : K12 w y cs) (h1 : Aft w y v v0) (k : ∀ q, v1.ownBlock = some q → v.ownBlock = some q ∨ (y.heap.size ≤ q ∧ q < y'.heap.size)) (hs : y.heap.size ≤ y'.heap.size) : Aft w y' v1 v0 := fun q hq => by
  rcases k q hq with e | e
  · exact (h1.mono hs) q e
  · have := h.size; exact .inr (by omega)
theorem Q12.own {y' : World} {v v1 : Value} (h1 : ∀ q, v.ownBlock = some q → q < y.heap.size) (k : ∀ q, v1.ownBlock = some q → v.ownBlock = some q ∨ (y.heap.size ≤ q ∧ q < y'.heap.size)) (hs : y.heap.size ≤ y'.heap.size) : ∀ q, v1.ownBlock = some q → q < y'.heap.size := fun q hq => by
  rcases k q hq with e | e
  · have := h1 q e; omega
  · omega
theorem Q12.mkT {w4 : World} {v1 : Value} {D' : List Tr} (h : Q12 w y cs vL vW vS vL0 vW0 vS0 D V S) (hd : Dt w4 v1 D') (hb : Below y.heap.size y w4) (k : ∀ q, v1.ownBlock = some q → vL.ownBlock = some q ∨ (y.heap.size ≤ q ∧ q < w4.heap.size)) : Q12 w w4 cs v1 vW vS vL0 vW0 vS0 D' V S :=
  ⟨h.k.mono hb, ⟨hd, h.d.dp.below hb, Q12.own h.d.oL k hb.size, fun q hq => Nat.lt_of_lt_of_le (h.d.oW q hq) hb.size, fun q hq => Nat.lt_of_lt_of_le (h.d.oS q hq) hb.size, h.d.gv, h.d.nd⟩, Q12.aft h.k h.a1 k hb.size, h.a2.mono hb.size, h.a3.mono hb.size, h.h0⟩
theorem Q12.mkP {w4 : World} {v2 v3 : Value} {V' : List (Int × Int)} {S' : List Int} (h : Q12 w y cs vL vW vS vL0 vW0 vS0 D V S) (hd : Dp w4 v2 v3 V' S') (hb : Below y.heap.size y w4) (k : ∀ q, v2.ownBlock = some q → vW.ownBlock = some q ∨ (y.heap.size ≤ q ∧ q < w4.heap.size)) (k' : ∀ q, v3.ownBlock = some q → vS.ownBlock = some q ∨ (y.heap.size ≤ q ∧ q < w4.heap.size))
    (gv : ∀ e ∈ V', (0 ≤ e.1 ∧ e.1 ≤ 65535) ∧ 0 ≤ e.2 ∧ e.2 < 4096) (nd : (V'.map Prod.fst).Nodup) : Q12 w w4 cs vL v2 v3 vL0 vW0 vS0 D V' S' :=
  ⟨h.k.mono hb, ⟨h.d.dt.below hb, hd, fun q hq => Nat.lt_of_lt_of_le (h.d.oL q hq) hb.size, Q12.own h.d.oW k hb.size, Q12.own h.d.oS k' hb.size, gv, nd⟩, h.a1.mono hb.size, Q12.aft h.k h.a2 k hb.size, Q12.aft h.k h.a3 k' hb.size, h.h0⟩
theorem nd_putV {V : List (Int × Int)} (h : (V.map Prod.fst).Nodup) (hg : ∀ e ∈ V, (0 ≤ e.1 ∧ e.1 ≤ 65535) ∧ 0 ≤ e.2 ∧ e.2 < 4096) (fd g : Int) : ((putV V fd g).map Prod.fst).Nodup := by
  unfold putV
  split
  · exact h
  · rename_i hn
    rw [List.map_append, List.nodup_append]
    refine ⟨h, by simp, fun a ha b hb e => ?_⟩
    simp at hb
    subst hb; subst e
    obtain ⟨⟨x, z⟩, he, rfl⟩ := List.mem_map.1 ha
    have h1 := rwho_mem h he
    exact hn (.inr (.inl (by rw [h1]; exact (hg _ he).2.1)))
theorem nd_tkV {V : List (Int × Int)} (h : (V.map Prod.fst).Nodup) (S : List Int) : ((tkV V S).map Prod.fst).Nodup := by
  unfold tkV
  split
  · exact (List.Sublist.map _ List.filter_sublist).nodup h
  · exact h
theorem bl_dr (y : World) : Below y.heap.size y y.drew := bl_drw y _
theorem P12.re {w' : World} {e : Ending} {rs rs' : List Value} {D' : List Tr} {V' : List (Int × Int)} {S' : List Int} (h : P12 w vL vW vS now n o D V S rs e w') (h1 : D' = D) (h2 : V' = V) (h3 : S' = S) (h4 : o' = o) (h5 : rs' = rs) : P12 w vL vW vS now n o' D' V' S' rs' e w' := by subst h1; subst h2; subst h3; subst h4; subst h5; exact h
end
set_option maxRecDepth 100000 in
set_option maxHeartbeats 8000000 in
theorem rready12 {w : World} {now : Int} {n o : Nat} {vL vW vS : Value} {D : List Tr} {V : List (Int × Int)} {S : List Int} (h : D12 w vL vW vS D V S) (hl : V.length + S.length < 1000) (fd : Int) :
    Calls Try.prog 25 #[.agg (sx now n vL o vW vS), .int .i64 fd] w (P12 w vL vW vS now n o D V (markS S fd) [.bool (due12 now D V (markS S fd)), .int .i64 0]) := by
  obtain ⟨aL, nL, cL, aW, nW, cW, aS, nS, cS, rfl, rfl, rfl, HL, HW, HS, _, _, _⟩ := h.sl
  obtain ⟨w0, hw0⟩ : ∃ w0, w0 = (w.alloc (.cells (sx now n (.slice aL nL cL) o (.slice aW nW cW) (.slice aS nS cS)) 35)).alloc (.cells sz 35) := ⟨_, rfl⟩
  have K := hid (show K12 w w0 (sx now n (.slice aL nL cL) o (.slice aW nW cW) (.slice aS nS cS)) by rw [hw0]; exact K12.start w _)
  have hs0 : w0.heap.size = w.heap.size + 2 := by rw [hw0]; simp
  have H := hid h
  have Q0 := hid (Q12.start h K.out)
  have A := hid (rmark_all w0 _ _ V S Q0.out.d.dp hl fd)
  obtain ⟨r, hr⟩ : ∃ r, r = due12 now D V (markS S fd) := ⟨_, rfl⟩
  rw [← hr]
  have HRR := hid hr.symm
  clear h hr
  go_enter Try.func25, Try.ntmps25
  go_wp2_with (refine wpList_load_midw (by rfl) 33 (.tmp 10) rfl w.heap.size 4 rfl [.slice aW nW cW, .slice aS nS cS] _ (by rw [← hw0]; exact range2 K.out.box rfl rfl) Try.underlying33 rfl (by kernel_rfl) ?_)
  rw [← hw0]
  refine A.out.mono ?_
  rintro e w4 ⟨v2, v3, rfl, hd, hb4, k1, k2⟩
  have Q4 := hid (Q0.out.mkP hd hb4 k1 k2 Q0.out.d.gv Q0.out.d.nd)
  obtain ⟨a2, n2, c2, a3, n3, c3, rfl, rfl, _, _, _, _⟩ := hd.sl
  obtain ⟨w5, hw5⟩ : ∃ w5, w5 = (w4.alloc (.cells #[.slice none 0 0, .slice none 0 0] 33)).setRow w4.heap.size #[.slice a2 n2 c2, .slice a3 n3 c3] := ⟨_, rfl⟩
  have hb5 : Below w4.heap.size w4 w5 := by rw [hw5]; exact row_below ((Below.refl w4.heap.size w4).alloc (Nat.le_refl _) _) (Nat.le_refl _) _
  have Q5 := hid (Q4.out.mono hb5)
  have X5 := hid (show w5.heap[w4.heap.size]? = some (.cells #[.slice a2 n2 c2, .slice a3 n3 c3] 33 (0, 0)) by rw [hw5]; exact setRow_heap _ _ _ _ _ _ (heap_alloc_new w4 _))
  have Q6 := hid Q5.out.fst2
  clear hb5 hd hb4 k1 k2 A K Q0 Q4 H hs0 hw0
  go_upto_region 4 with (first
    | (refine wpList_store_row rfl 33 (.tmp 7) (.tmp 14) rfl w4.heap.size #[.slice a2 n2 c2, .slice a3 n3 c3] rfl rfl 33 _ (heap_alloc_new w4 _) (by kernel_rfl) (by rfl) (by simp [Value.oneCell']) ?_))
  rw [← hw5]
  clear hw5
  go_upto_region 5 with (first
    | (refine wpList_load_known (by rfl) 33 (.tmp 7) rfl w4.heap.size rfl 33 #[.slice a2 n2 c2, .slice a3 n3 c3] (0, 0) _ X5.out Try.underlying33 rfl (by kernel_rfl) ?_)
    | (refine wpList_store_mid rfl 33 (.tmp 21) (.tmp 20) rfl w.heap.size 4 #[.slice a2 n2 c2, .slice a3 n3 c3] rfl rfl (there_of Q5.out.k.box (by simp)) (by kernel_rfl) (by simp [Value.oneCell']) ?_))
  have DU := hid (rdue12 (now := now) (n := n) (o := o) (Q6.out.mono (bl_dr _)).d r HRR.out)
  have Q7 := hid (fun (w7 : World) (hb : Below (w5.setCells w.heap.size 4 [.slice a2 n2 c2, .slice a3 n3 c3]).drew.heap.size (w5.setCells w.heap.size 4 [.slice a2 n2 c2, .slice a3 n3 c3]).drew w7) => (Q6.out.mono (bl_dr _)).mono hb)
  have z0 := blk_cell (Q6.out.mono (bl_dr _)).k.box (i := 0) rfl
  have z1 := blk_cell (Q6.out.mono (bl_dr _)).k.box (i := 1) rfl
  have z2 := blk_cell (Q6.out.mono (bl_dr _)).k.box (i := 2) rfl
  have z3 := blk_cell (Q6.out.mono (bl_dr _)).k.box (i := 3) rfl
  have z4 := blk_cell (Q6.out.mono (bl_dr _)).k.box (i := 4) rfl
  have z5 := blk_cell (Q6.out.mono (bl_dr _)).k.box (i := 5) rfl
  go_wp2_with fail
  go_region_with (go_at_call 10; (with_reducible refine DU.out.mono ?_); rintro e w7 ⟨rfl, hb7⟩; have Q8 := hid (Q7.out w7 hb7); clear hb7; have u0 := blk_cell Q8.out.k.box (i := 0) rfl; have u1 := blk_cell Q8.out.k.box (i := 1) rfl; have u2 := blk_cell Q8.out.k.box (i := 2) rfl; have u3 := blk_cell Q8.out.k.box (i := 3) rfl; have u4 := blk_cell Q8.out.k.box (i := 4) rfl; have u5 := blk_cell Q8.out.k.box (i := 5) rfl; have x0 := blk_cell Q8.out.k.res (i := 0) rfl; have x1 := blk_cell Q8.out.k.res (i := 1) rfl; have x2 := blk_cell Q8.out.k.res (i := 2) rfl; have x3 := blk_cell Q8.out.k.res (i := 3) rfl; have x4 := blk_cell Q8.out.k.res (i := 4) rfl; have x5 := blk_cell Q8.out.k.res (i := 5) rfl; have y0 := blk_free Q8.out.k.res (i := 0); have y1 := blk_free Q8.out.k.res (i := 1); have y2 := blk_free Q8.out.k.res (i := 2); have y3 := blk_free Q8.out.k.res (i := 3); have y4 := blk_free Q8.out.k.res (i := 4); have y5 := blk_free Q8.out.k.res (i := 5))
  all_goals
    have FIN := hid (Q8.out.fin6 [.bool r, .int .i64 0])
    have S6 := hid (set6s Q8.out.k.res (.int .i64 now) (.int .i64 n) (.slice aL nL cL) (.int .u64 o) (.slice a2 n2 c2) (.slice a3 n3 c3))
    clear DU Q7 Q6 Q5 X5
    go_wp2
    exact bodyPost_ret (v := .tuple #[.agg (sx now n (.slice aL nL cL) o (.slice a2 n2 c2) (.slice a3 n3 c3)), .bool r, .int .i64 0]) (results_c2 rfl _ _ (w.heap.size + 1) 35 (sx now n (.slice aL nL cL) o (.slice a2 n2 c2) (.slice a3 n3 c3)) (0, 0) _ (by rfl) S6.out Try.underlying35 rfl (by kernel_rfl) _ _ (by rfl) (by rfl)) rfl FIN.out
end Go.Proofs.Ytaogpodncphpjaa
