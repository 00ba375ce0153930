/- mask.Mask.Copy, idle.Idle.Copy (a seat without the document's Idle). -/
import Derived.Test.YtfpkgkjmpcoppaaGreatDoorGI
import Derived.Deep.RegionWith
import Derived.Deep.RegionHeld3
namespace Go.Proofs.YtfpkgkjmpcoppaaGreatDoor
set_option linter.unusedVariables false
set_option linter.unusedSimpArgs false
open Go.RowKit
set_option maxRecDepth 20000
theorem bl_drw13 (w : World) (B : Nat) : Below B w w.drew := Quiet.below ⟨1, rfl⟩ _
theorem bl_al13 (w : World) (o : Obj) : Below w.heap.size w (w.alloc o) := (Below.refl _ _).alloc (Nat.le_refl _) _
def McPost (np : Nat) (W : List Nat) (w : World) (e : Ending) (w' : World) : Prop := ∃ x y, e = .returned (.pointer (some ⟨x, 0, none⟩)) ∧ Msk w' x y np W ∧ Below w.heap.size w w' ∧ w.heap.size ≤ x ∧ w.heap.size ≤ y ∧ x < w'.heap.size ∧ y < w'.heap.size
theorem mc_fin {w y : World} {mx my np : Nat} {W : List Nat} {a : Option Addr} {c : Nat} (h : Msk w mx my np W) (h0 : 0 < W.length) (ho : U64.Owns y w.heap.size (.slice a W.length c) (W.map Int.ofNat)) (hb : Below w.heap.size w y) :
    McPost np W w (.returned (.pointer (some ⟨y.heap.size, 0, none⟩))) (y.alloc (.cells #[.int .i64 np, .slice a W.length c] 153)) := by
  have hs := hb.size
  obtain ⟨q0, ⟨q1, q2⟩ | ⟨g, cap, cur, q1, q2, q3, q4, q5, q6, q7⟩⟩ := ho
  · rw [List.length_map] at q2; omega
  · simp only [Value.slice.injEq] at q1
    obtain ⟨rfl, q8, rfl⟩ := q1
    have hgl : g < y.heap.size := (Array.getElem?_eq_some_iff.1 q3).1
    rw [List.length_map] at q7 q4
    refine ⟨_, g, rfl, ⟨⟨c, cur, Deep.blk_alloc_new _ _, (Below.heap_alloc _ _ _ hgl).trans q3, q4, q5, by rw [q6, Nat.mul_one], by rw [Nat.mul_one] at q7; rw [q7, List.map_map]; rfl⟩, by omega, h.len, h.wf, h.out, h.most⟩, hb.alloc hs _, hs, q2, by simp, by simp; omega⟩
set_option maxHeartbeats 4000000 in
theorem mcopyM (w : World) (mx my np : Nat) (W : List Nat) (h : Msk w mx my np W) (h0 : 0 < W.length) : Calls Tryz.prog 83 #[.pointer (some ⟨mx, 0, none⟩)] w (McPost np W w) := by
  obtain ⟨cap, c1, hrd⟩ := (h.kept (w' := w.drew) rfl rfl).reads
  have c1 : w.cell? ⟨mx, 1, none⟩ = some (.slice (some ⟨my, 0, none⟩) W.length cap) := c1
  have c0 := h.c0
  have CL := hid (U64.clone_int _ _ w.drew (by rw [List.length_map, h.len]; have := h.most; omega) hrd)
  have H := hid h
  have HB := hid h.sx
  have H0 := hid h0
  clear h hrd h0
  go_enter Tryz.func83, Tryz.ntmps83
  go_wp2_with fail
  go_region_with (go_at_call 119; (with_reducible refine CL.out.mono ?_); rintro e y ⟨v', rfl, ho, hb⟩; have hbx := (hb.block mx HB.out); have y0 : y.cell? ⟨mx, 0, none⟩ = some (.int .i64 np) := (World.cell?_of_block hbx).trans c0; have HO := hid ho; have HY := hid ((bl_drw13 w _).trans hb); obtain ⟨a, c, rfl⟩ := ho.slice; rw [List.length_map] at HO ⊢; clear ho hb hbx)
  all_goals
    have F := hid (mc_fin H.out H0.out HO.out HY.out)
    clear CL HO HY
    go_wp2
    go_ret
    exact F.out
variable {Z : Nat → Prop} {w : World} {x np : Nat} {f : Nat → Bool} {pd : List Int} {N : Int} {ss : List Int} {pl : Int}
/-- A copy's cells, with what was made for them. -/
theorem icopy_fin {y0 y1 y2 y3 : World} {c X Y mx : Nat} {W : List Nat} {pv sv v2 v3 : Value} (hT : DbTab w) (hc : c = w.heap.size) (hbx : y3.heap[c]? = some (.cells #[.pointer (some ⟨mx, 0, none⟩), pv, .int .i64 N, sv, .int .i64 pl] 105 (0, 0)))
    (b0 : Below w.heap.size w y0) (s0 : c < y0.heap.size) (hM : Msk y1 X Y np W) (hX : y0.heap.size ≤ X ∧ y0.heap.size ≤ Y ∧ X < y1.heap.size ∧ Y < y1.heap.size) (b1 : Below y0.heap.size y0 y1) (h2 : Owns y2 y1.heap.size v2 pd) (b2 : Below y1.heap.size y1 y2) (h3 : Owns y3 y2.heap.size v3 ss) (b3 : Below y2.heap.size y2 y3) (hf : bitAt W = f) :
    Ids (· < w.heap.size) c np f pd N ss pl (((y3.setCell ⟨c, 0, none⟩ (.pointer (some ⟨X, 0, none⟩))).setCell ⟨c, 1, none⟩ v2).setCell ⟨c, 3, none⟩ v3) ∧ Below w.heap.size w (((y3.setCell ⟨c, 0, none⟩ (.pointer (some ⟨X, 0, none⟩))).setCell ⟨c, 1, none⟩ v2).setCell ⟨c, 3, none⟩ v3) := by
  have s1 := b1.size
  have s2 := b2.size
  have s3 := b3.size
  have so := b0.size
  have k1 := blk_set (i := 0) (.pointer (some ⟨X, 0, none⟩)) hbx (show (#[.pointer (some ⟨mx, 0, none⟩), pv, .int .i64 N, sv, .int .i64 pl] : Array Value).setIfInBounds 0 (.pointer (some ⟨X, 0, none⟩)) = #[.pointer (some ⟨X, 0, none⟩), pv, .int .i64 N, sv, .int .i64 pl] from rfl)
  have k2 := blk_set (i := 1) v2 k1 (show (#[.pointer (some ⟨X, 0, none⟩), pv, .int .i64 N, sv, .int .i64 pl] : Array Value).setIfInBounds 1 v2 = #[.pointer (some ⟨X, 0, none⟩), v2, .int .i64 N, sv, .int .i64 pl] from rfl)
  have k3 := blk_set (i := 3) v3 k2 (show (#[.pointer (some ⟨X, 0, none⟩), v2, .int .i64 N, sv, .int .i64 pl] : Array Value).setIfInBounds 3 v3 = #[.pointer (some ⟨X, 0, none⟩), v2, .int .i64 N, v3, .int .i64 pl] from rfl)
  have ot : ∀ q, q ≠ c → (((y3.setCell ⟨c, 0, none⟩ (.pointer (some ⟨X, 0, none⟩))).setCell ⟨c, 1, none⟩ v2).setCell ⟨c, 3, none⟩ v3).heap[q]? = y3.heap[q]? := fun q hq => by
    rw [heap_setCell_other _ _ _ _ (by simpa using hq), heap_setCell_other _ _ _ _ (by simpa using hq), heap_setCell_other _ _ _ _ (by simpa using hq)]
  have hb : Below w.heap.size w y3 := b0.trans ((b1.mono so).trans ((b2.mono (by omega)).trans (b3.mono (by omega))))
  have hbF : Below w.heap.size w (((y3.setCell ⟨c, 0, none⟩ (.pointer (some ⟨X, 0, none⟩))).setCell ⟨c, 1, none⟩ v2).setCell ⟨c, 3, none⟩ v3) := ((hb.setCell (p := ⟨c, 0, none⟩) (by show w.heap.size ≤ c; omega) _).setCell (p := ⟨c, 1, none⟩) (by show w.heap.size ≤ c; omega) _).setCell (p := ⟨c, 3, none⟩) (by show w.heap.size ≤ c; omega) _
  have l2 : ∀ q, v2.ownBlock = some q → y1.heap.size ≤ q ∧ q < y2.heap.size := fun q hq => World.ownsRow.lt h2 q hq
  have l3 : ∀ q, v3.ownBlock = some q → y2.heap.size ≤ q ∧ q < y3.heap.size := fun q hq => World.ownsRow.lt h3 q hq
  have m3 := (hM.below b2 hX.2.2.1 hX.2.2.2).below b3 (by omega) (by omega)
  refine ⟨⟨⟨X, Y, v3.ownBlock, v2.ownBlock, W, v2, ⟨⟨⟨v3, k3, ?_, rfl⟩, ?_⟩, ?_, rfl, m3.kept (ot X (by omega)) (ot Y (by omega)), by omega, by omega, ?_, ?_, ?_, ?_, ?_, ?_, (by show ¬ (c < w.heap.size); omega), (by show ¬ (X < w.heap.size); omega), (by show ¬ (Y < w.heap.size); omega), ?_, ?_, fun k (hk : k < w.heap.size) => by simp; omega⟩, hf⟩, hT.at hbF, hT.lt⟩, hbF⟩
  · exact (h3.mono (Nat.zero_le _)).kept (fun q hq => ot q (by have := l3 q hq; omega))
  · exact fun e => by have := l3 c e; omega
  · exact (h2.mono (Nat.zero_le _)).kept (fun q hq => (ot q (by have := l2 q hq; omega)).trans (b3.block q (l2 q hq).2))
  · exact fun e => by have := l3 X e; omega
  · exact fun e => by have := l3 Y e; omega
  · exact fun e => by have := l2 c e; omega
  · exact fun e => by have := l2 X e; omega
  · exact fun e => by have := l2 Y e; omega
  · exact fun k e1 e2 => by have := l3 k e1; have := l2 k e2; omega
  · exact fun k hk (h9 : k < w.heap.size) => by have := l3 k hk; omega
  · exact fun k hk (h9 : k < w.heap.size) => by have := l2 k hk; omega
set_option maxHeartbeats 8000000 in
theorem icopy (h : Ids Z x np f pd N ss pl w) (hnp : 0 < np) (hpd : pd.length ≤ 1000) (hss : ss.length ≤ 1000) : Calls Tryz.prog 49 #[.pointer (some ⟨x, 0, none⟩)] w fun e w' => e = .returned (.pointer (some ⟨w.heap.size, 0, none⟩)) ∧ Ids (· < w.heap.size) w.heap.size np f pd N ss pl w' ∧ Below w.heap.size w w' := by
  obtain ⟨mx, my, r, rp, W, pv, i0, hf⟩ := h.h
  have hT := h.T
  obtain ⟨sv, hbx, hsv, hr⟩ := i0.i.h
  have hW : 0 < W.length := by rw [i0.m.len]; omega
  obtain ⟨c, hc⟩ : ∃ c, c = w.heap.size := ⟨_, rfl⟩
  obtain ⟨w1, hw1⟩ : ∃ w1, w1 = w.alloc (.cells #[.pointer (some ⟨mx, 0, none⟩), pv, .int .i64 N, sv, .int .i64 pl] 105) := ⟨_, rfl⟩
  have B1 : Below w.heap.size w w1 := by rw [hw1]; exact bl_al13 _ _
  have C1 : w1.heap[c]? = some (.cells #[.pointer (some ⟨mx, 0, none⟩), pv, .int .i64 N, sv, .int .i64 pl] 105 (0, 0)) := by rw [hw1, hc]; exact heap_alloc_new _ _
  obtain ⟨HQ, hHQ⟩ : ∃ HQ : World → Prop, HQ = fun y => Below w1.heap.size w1 y := ⟨_, rfl⟩
  have sc : c < w1.heap.size := blk_lt C1
  have hxl : x < w.heap.size := blk_lt hbx
  have QI := hid (show ∀ y, HQ y → Ids0 y Z x mx my r rp np W pv pd N ss pl ∧ y.heap[x]? = some (.cells #[.pointer (some ⟨mx, 0, none⟩), pv, .int .i64 N, sv, .int .i64 pl] 105 (0, 0)) ∧ Owns y 0 sv ss ∧ y.heap[c]? = some (.cells #[.pointer (some ⟨mx, 0, none⟩), pv, .int .i64 N, sv, .int .i64 pl] 105 (0, 0)) ∧ Below w.heap.size w y ∧ c < y.heap.size from fun y hy => by
    rw [hHQ] at hy
    have hb : Below w.heap.size w y := B1.trans (hy.mono B1.size)
    exact ⟨i0.below hb, (hb.block x hxl).trans hbx, hsv.kept (fun k hk => hb.block k (owns_lt hsv hk)), (hy.block c sc).trans C1, hb, Nat.lt_of_lt_of_le sc hy.size⟩)
  have QB := hid (show ∀ y y', HQ y → Below y.heap.size y y' → HQ y' from fun y y' hy hb => by rw [hHQ] at hy ⊢; exact hy.trans (hb.mono hy.size))
  have H1 : HQ w1 := by rw [hHQ]; exact Below.refl _ _
  have QS := hid (show ∀ y, HQ y → y.cell? ⟨x, 0, none⟩ = some (.pointer (some ⟨mx, 0, none⟩)) ∧ y.cell? ⟨x, 1, none⟩ = some pv ∧ y.cell? ⟨x, 3, none⟩ = some sv from fun y hy => by
    have h9 := (QI.out y hy).2.1
    exact ⟨blk_cell h9 rfl, blk_cell h9 rfl, blk_cell h9 rfl⟩)
  have A1 := hid (fun y (hy : HQ y) => mcopyM y mx my np W (QI.out y hy).1.m hW)
  have A2 := hid (fun y (hy : HQ y) => clone_int pv pd y (by omega) (QI.out y hy).1.p.reads)
  have A3 := hid (fun y (hy : HQ y) => clone_int sv ss y (by omega) (QI.out y hy).2.2.1.reads)
  have FIN := hid (fun (y0 y1 y2 y3 : World) (X Y : Nat) (v2 v3 : Value) (q0 : HQ y0) (q3 : HQ y3) (hM : Msk y1 X Y np W) (hX : y0.heap.size ≤ X ∧ y0.heap.size ≤ Y ∧ X < y1.heap.size ∧ Y < y1.heap.size) (b1 : Below y0.heap.size y0 y1) (h2 : Owns y2 y1.heap.size v2 pd) (b2 : Below y1.heap.size y1 y2) (h3 : Owns y3 y2.heap.size v3 ss) (b3 : Below y2.heap.size y2 y3) =>
    icopy_fin (f := f) hT hc (QI.out y3 q3).2.2.2.1 (QI.out y0 q0).2.2.2.2.1 (QI.out y0 q0).2.2.2.2.2 hM hX b1 h2 b2 h3 b3 hf)
  obtain ⟨a2, n2, c2, rfl⟩ := i0.p.slice3
  obtain ⟨a3, n3, c3, rfl⟩ := hsv.slice3
  have y0 := blk_cell hbx (i := 0) rfl
  have y1 := blk_cell hbx (i := 1) rfl
  have y2 := blk_cell hbx (i := 2) rfl
  have y3 := blk_cell hbx (i := 3) rfl
  have y4 := blk_cell hbx (i := 4) rfl
  have HD := QB.out _ _ H1 (bl_drw13 w1 _)
  have hxc : x ≠ c := by omega
  have K := hid (show ∀ y, HQ y → y.heap[c]? = some (.cells #[.pointer (some ⟨mx, 0, none⟩), .slice a2 n2 c2, .int .i64 N, .slice a3 n3 c3, .int .i64 pl] 105 (0, 0)) from fun y hy => (QI.out y hy).2.2.2.1)
  clear h i0 hf hT hbx hsv hr hW B1 C1 hHQ sc hxl
  go_enter Tryz.func49, Tryz.ntmps49
  go_wp2_with fail
  rw [← hw1, ← hc]
  have HC := hid hc
  clear hw1 hc
  have Q1 := hid (show ∀ (y : World) (u : Value), HQ y → (y.setCell ⟨c, 0, none⟩ u).cell? ⟨x, 0, none⟩ = some (.pointer (some ⟨mx, 0, none⟩)) ∧ (y.setCell ⟨c, 0, none⟩ u).cell? ⟨x, 1, none⟩ = some (.slice a2 n2 c2) ∧ (y.setCell ⟨c, 0, none⟩ u).cell? ⟨x, 3, none⟩ = some (.slice a3 n3 c3) from fun y u hy => by
    obtain ⟨t1, t2, t3⟩ := QS.out y hy
    have e := heap_setCell_other y ⟨c, 0, none⟩ x u (by simpa using hxc)
    exact ⟨(World.cell?_of_block e).trans t1, (World.cell?_of_block e).trans t2, (World.cell?_of_block e).trans t3⟩)
  have Q2 := hid (show ∀ (y : World) (u u2 : Value), HQ y → ((y.setCell ⟨c, 0, none⟩ u).setCell ⟨c, 1, none⟩ u2).cell? ⟨x, 0, none⟩ = some (.pointer (some ⟨mx, 0, none⟩)) ∧ ((y.setCell ⟨c, 0, none⟩ u).setCell ⟨c, 1, none⟩ u2).cell? ⟨x, 1, none⟩ = some (.slice a2 n2 c2) ∧ ((y.setCell ⟨c, 0, none⟩ u).setCell ⟨c, 1, none⟩ u2).cell? ⟨x, 3, none⟩ = some (.slice a3 n3 c3) from fun y u u2 hy => by
    obtain ⟨t1, t2, t3⟩ := Q1.out y u hy
    have e := heap_setCell_other (y.setCell ⟨c, 0, none⟩ u) ⟨c, 1, none⟩ x u2 (by simpa using hxc)
    exact ⟨(World.cell?_of_block e).trans t1, (World.cell?_of_block e).trans t2, (World.cell?_of_block e).trans t3⟩)
  have Q3 := hid (show ∀ (y : World) (u u2 u3 : Value), HQ y → (((y.setCell ⟨c, 0, none⟩ u).setCell ⟨c, 1, none⟩ u2).setCell ⟨c, 3, none⟩ u3).cell? ⟨x, 0, none⟩ = some (.pointer (some ⟨mx, 0, none⟩)) ∧ (((y.setCell ⟨c, 0, none⟩ u).setCell ⟨c, 1, none⟩ u2).setCell ⟨c, 3, none⟩ u3).cell? ⟨x, 1, none⟩ = some (.slice a2 n2 c2) ∧ (((y.setCell ⟨c, 0, none⟩ u).setCell ⟨c, 1, none⟩ u2).setCell ⟨c, 3, none⟩ u3).cell? ⟨x, 3, none⟩ = some (.slice a3 n3 c3) from fun y u u2 u3 hy => by
    obtain ⟨t1, t2, t3⟩ := Q2.out y u u2 hy
    have e := heap_setCell_other ((y.setCell ⟨c, 0, none⟩ u).setCell ⟨c, 1, none⟩ u2) ⟨c, 3, none⟩ x u3 (by simpa using hxc)
    exact ⟨(World.cell?_of_block e).trans t1, (World.cell?_of_block e).trans t2, (World.cell?_of_block e).trans t3⟩)
  clear y0 y1 y2 y3 y4
  go_region_held3 (fun y => y.cell? ⟨x, 0, none⟩ = some (.pointer (some ⟨mx, 0, none⟩)) ∧ y.cell? ⟨x, 1, none⟩ = some (.slice a2 n2 c2) ∧ y.cell? ⟨x, 3, none⟩ = some (.slice a3 n3 c3))
    (first
      | with_reducible exact QS.out _ G3
      | with_reducible exact QS.out _ G2
      | with_reducible exact QS.out _ G1
      | with_reducible exact QS.out _ HD
      | with_reducible exact Q1.out _ _ G3
      | with_reducible exact Q2.out _ _ _ G3
      | with_reducible exact Q3.out _ _ _ _ G3)
    (first
      | (go_at_call 83; (with_reducible refine (A1.out _ HD).mono ?_); rintro e z1 ⟨X, Y, rfl, hM, hb1, hX⟩; have G1 := QB.out _ _ HD hb1; have M1 := hid (And.intro hM (And.intro hX hb1)); clear hM hX hb1)
      | (go_at_call 81; (with_reducible refine (A2.out _ G1).mono ?_); rintro e z2 ⟨v2, rfl, o2, hb2⟩; have G2 := QB.out _ _ G1 hb2; have M2 := hid (And.intro o2 hb2); obtain ⟨a4, n4, c4, rfl⟩ := o2.slice3; clear o2 hb2)
      | (go_at_call 81; (with_reducible refine (A3.out _ G2).mono ?_); rintro e z3 ⟨v3, rfl, o3, hb3⟩; have G3 := QB.out _ _ G2 hb3; have M3 := hid (And.intro o3 hb3); obtain ⟨a5, n5, c5, rfl⟩ := o3.slice3; have k0 := blk_cell (K.out _ G3) (i := 0) rfl; have k1 := blk_cell (K.out _ G3) (i := 1) rfl; have k3 := blk_cell (K.out _ G3) (i := 3) rfl; have f0 := blk_free (K.out _ G3) (i := 0); have f1 := blk_free (K.out _ G3) (i := 1); have f3 := blk_free (K.out _ G3) (i := 3); clear o3 hb3))
  all_goals
    have F := hid (FIN.out _ _ _ _ X Y _ _ HD G3 M1.out.1 M1.out.2.1 M1.out.2.2 M2.out.1 M2.out.2 M3.out.1 M3.out.2)
    clear M1 M2 M3 A1 A2 A3 QI QB QS Q1 Q2 Q3 K FIN H1 HD G1 G2 G3
    go_wp2
    go_ret
    have F2 := F.out
    refine ⟨(show Ending.returned (.pointer (some ⟨c, 0, none⟩)) = _ by rw [HC.out]), ?_, F2.2⟩
    have F3 := F2.1
    generalize (((z3.setCell ⟨c, 0, none⟩ (.pointer (some ⟨X, 0, none⟩))).setCell ⟨c, 1, none⟩ (.slice a4 n4 c4)).setCell ⟨c, 3, none⟩ (.slice a5 n5 c5)) = WW at F3 ⊢
    rw [HC.out] at F3
    exact F3
end Go.Proofs.YtfpkgkjmpcoppaaGreatDoor
