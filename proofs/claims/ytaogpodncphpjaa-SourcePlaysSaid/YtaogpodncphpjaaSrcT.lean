/- source.Source.Take. -/
import Derived.Test.YtaogpodncphpjaaSrcB
namespace Go.Proofs.Ytaogpodncphpjaa
set_option linter.unusedVariables false
set_option linter.unusedSimpArgs false
open Go.RowKit
section
variable {Z : Nat → Prop} {w w' : World} {s t p b1 b2 b3 n : Nat} {now : Int} {es : Nat → List En} {L l : List En} {ad : Nat} {W : List (Int × Int)} {R : List Int}
theorem Sq.takeT {x : En} (h : Sq Z w s t p b1 b2 b3 n now es (x :: l) ad W R) (ha : TeTake (Zt Z s p b1 b2 b3) w t n es l ad x w') :
    ∃ es', Sq Z w' s t p b1 b2 b3 n now es' l ad W R ∧ FrZ Z w w' := by
  obtain ⟨hf, m, T, _, _, ht⟩ := ha
  obtain ⟨e1, q1⟩ := h.frT hf
  refine ⟨_, ⟨e1.trans h.box, ht, q1, h.now, fun e he => h.whn e (List.mem_cons_of_mem _ he), fun a ha => h.dis a ?_, h.zf, h.ne, fun q hq => Nat.lt_of_lt_of_le (h.hz q hq) hf.size⟩, hf.ofT⟩
  have := of_decide_eq_true ha
  exact decide_eq_true (List.mem_cons_of_mem _ this)
def StPost (Z : Nat → Prop) (w0 : World) (s t p b1 b2 b3 n : Nat) (now : Int) (l : List En) (ad : Nat) (W : List (Int × Int)) (R : List Int) (w' : World) : Prop := ∃ es, OkPost Z w0 s t p b1 b2 b3 n now es l ad W R w'
/-- The result's block, made early. -/
abbrev Z98 : Obj := .cells #[.int .i64 0, .int .u64 0, .int .i64 0] 88
abbrev st98 (w : World) (q : Nat) (x y z : Int) : World := ((w.setCell ⟨q, 0, none⟩ (.int .i64 x)).setCell ⟨q, 1, none⟩ (.int .u64 y)).setCell ⟨q, 2, none⟩ (.int .i64 z)
theorem only98 (w : World) (q i : Nat) (v : Value) : Only q q w (w.setCell ⟨q, i, none⟩ v) := ⟨rfl, rfl, rfl, by simp [World.setCell], fun k _ h1 _ => Below.heap_setCell _ _ _ _ h1⟩
theorem st98_only (w : World) (q : Nat) (x y z : Int) : Only q q w (st98 w q x y z) := ((only98 w q 0 _).trans (only98 _ q 1 _)).trans (only98 _ q 2 _)
theorem st98_blk {w : World} {q : Nat} (h : w.heap[q]? = some Z98) (x y z : Int) : (st98 w q x y z).heap[q]? = some (.cells #[.int .i64 x, .int .u64 y, .int .i64 z] 88) := by
  simp [World.setCell, Array.getElem?_modify, h]
theorem z98_new (w : World) : (w.alloc Z98).drew.heap[w.heap.size]? = some Z98 := Deep.blk_alloc_new w Z98
theorem al_lt (w : World) (o : Obj) : w.heap.size < (w.alloc o).heap.size := by
  show _ < (w.heap.push o).size
  rw [Array.size_push]; omega
theorem bl_ald (w : World) : Below w.heap.size w (w.alloc Z98).drew := (bl_al w Z98).trans (bl_drw _ _)
theorem z98_of {B : Nat} {w w4 : World} (f : Below (w.alloc Z98).drew.heap.size (w.alloc Z98).drew w4) : w4.heap[w.heap.size]? = some Z98 :=
  (f.block _ (al_lt w Z98)).trans (z98_new w)
theorem bl_st98 {w w4 : World} (f : Below (w.alloc Z98).drew.heap.size (w.alloc Z98).drew w4) (x y z : Int) : Below w.heap.size w (st98 w4 w.heap.size x y z) :=
  ((bl_ald w).trans (f.mono (Nat.le_of_lt (al_lt w Z98)))).trans ((st98_only w4 w.heap.size x y z).below (Nat.le_refl _) (Nat.le_refl _) (Nat.le_of_lt (Nat.lt_of_lt_of_le (al_lt w Z98) f.size)))
theorem Sq.reZ (h : Sq Z w s t p b1 b2 b3 n now es L ad W R) : Sq (fun q => Z q ∨ q = w.heap.size) (w.alloc Z98).drew s t p b1 b2 b3 n now es L ad W R := by
  have g := h.below (bl_ald w)
  have l0 := h.lt
  obtain ⟨l1, l2, l3, l4⟩ := h.pq.lt
  obtain ⟨z0, z1, z2, z3, z4⟩ := h.zf
  refine ⟨g.box, ?_, g.pq, h.now, h.whn, h.dis, ⟨?_, ?_, ?_, ?_, ?_⟩, h.ne, ?_⟩
  · refine ((h.te.reZ (Nat.le_refl _)).below (bl_ald w)).weak ?_
    rintro q ((hq | hq) | hq | hq | hq | hq | hq)
    · exact .inl (.inl hq)
    · exact .inr hq
    · exact .inl (.inr (.inl hq))
    · exact .inl (.inr (.inr (.inl hq)))
    · exact .inl (.inr (.inr (.inr (.inl hq))))
    · exact .inl (.inr (.inr (.inr (.inr (.inl hq)))))
    · exact .inl (.inr (.inr (.inr (.inr (.inr hq)))))
  · rintro (e | e)
    · exact z0 e
    · omega
  · rintro (e | e)
    · exact z1 e
    · omega
  · rintro (e | e)
    · exact z2 e
    · omega
  · rintro (e | e)
    · exact z3 e
    · omega
  · rintro (e | e)
    · exact z4 e
    · omega
  · rintro q (hq | rfl)
    · exact Nat.lt_trans (h.hz q hq) (al_lt w Z98)
    · exact al_lt w Z98
theorem Sq.weak {Z' : Nat → Prop} (h : Sq Z' w s t p b1 b2 b3 n now es L ad W R) (hz : ∀ q, Z q → Z' q) : Sq Z w s t p b1 b2 b3 n now es L ad W R :=
  ⟨h.box, h.te.weak (fun q hq => hq.imp (hz q) id), h.pq, h.now, h.whn, h.dis, ⟨fun e => h.zf.1 (hz _ e), fun e => h.zf.2.1 (hz _ e), fun e => h.zf.2.2.1 (hz _ e), fun e => h.zf.2.2.2.1 (hz _ e), fun e => h.zf.2.2.2.2 (hz _ e)⟩, h.ne, fun q hq => h.hz q (hz q hq)⟩
theorem Sq.only (h : Sq Z w s t p b1 b2 b3 n now es L ad W R) {b : Nat} (o : Only b b w w') (hb : Z b) : Sq Z w' s t p b1 b2 b3 n now es L ad W R := by
  obtain ⟨z0, z1, z2, z3, z4⟩ := h.zf
  exact ⟨only_blk o h.box (fun e => z0 (e ▸ hb)), h.te.only o (.inl hb), h.pq.only o ⟨fun e => z1 (e ▸ hb), fun e => z2 (e ▸ hb), fun e => z3 (e ▸ hb), fun e => z4 (e ▸ hb)⟩, h.now, h.whn, h.dis, h.zf, h.ne, fun q hq => Nat.lt_of_lt_of_le (h.hz q hq) o.size⟩
theorem st98_sq {w4 : World} {hz : ∀ q, Z q → q < w.heap.size} {es4 : Nat → List En} (q4 : Sq (fun q => Z q ∨ q = w.heap.size) w4 s t p b1 b2 b3 n now es4 l ad W R) (f4 : FrZ (fun q => Z q ∨ q = w.heap.size) (w.alloc Z98).drew w4) (x y z : Int) :
    Sq Z (st98 w4 w.heap.size x y z) s t p b1 b2 b3 n now es4 l ad W R ∧ FrZ Z w (st98 w4 w.heap.size x y z) := by
  refine ⟨(q4.only (st98_only w4 _ x y z) (.inr rfl)).weak (fun q => .inl), ((FrZ.of_below (bl_ald w)).trans ⟨f4.os, f4.tape, f4.output, f4.size, fun k hk hq => f4.block k hk (.inl hq)⟩).trans (.of_only (st98_only w4 _ x y z) (fun hq => Nat.lt_irrefl _ (hz _ hq)))⟩
set_option maxHeartbeats 8000000 in
theorem stake_t {x1 x2 x3 : Int} (h : Sq Z w s t p b1 b2 b3 n now es ((x1, x2, x3) :: l) ad W R) (hx : x1 ≤ now) :
    Calls Try.prog 18 #[.pointer (some ⟨s, 0, none⟩)] w fun e w' => e = .returned (.tuple #[.int .i64 x3, .bool true]) ∧ StPost Z w s t p b1 b2 b3 n now l ad W R w' := by
  have c1 : w.cell? ⟨s, 1, none⟩ = some (.pointer (some ⟨t, 0, none⟩)) := cellx h.box rfl
  have c1' : ∀ o : Obj, (w.alloc o).cell? ⟨s, 1, none⟩ = some (.pointer (some ⟨t, 0, none⟩)) := fun o => cellx ((h.below (bl_al w o)).box) rfl
  have NW := hid (snow (h.below (bl_drw w _)))
  have NA := hid (snow (h.below (bl_ald w)))
  have H1 := hid (h.below (bl_drw w w.heap.size))
  have HA := hid h.reZ
  have F1 := hid (FrZ.of_below (Z := Z) (bl_drw w w.heap.size))
  have TK := hid (te_take (now := now) H1.out.te H1.out.hzt hx)
  have TA := hid (te_take (now := now) HA.out.te HA.out.hzt hx)
  have HZ := hid h.hz
  clear h hx
  go_enter Try.func18, Try.ntmps18
  go_wp2_with fail
  go_region_with (first
    | (go_at_call 8; refine (NW.out).mono ?_; rintro e w3 ⟨rfl, rfl⟩)
    | (go_at_call 8; refine (NA.out).mono ?_; rintro e w3 ⟨rfl, rfl⟩)
    | (go_at_call 44; refine (TK.out).mono ?_; rintro e w4 ⟨rfl, h4⟩; have H4 := hid (H1.out.takeT h4); clear h4)
    | (go_at_call 44; refine (TA.out).mono ?_; rintro e w4 ⟨rfl, h4⟩; have H4 := hid (HA.out.takeT h4); clear h4; have ZB := hid (show w4.heap[w.heap.size]? = some Z98 from by obtain ⟨_, _, f4⟩ := H4.out; exact (f4.block _ (al_lt w Z98) (.inr rfl)).trans (z98_new w)); have z0 : w4.frozen? ⟨w.heap.size, 0, none⟩ = false := by simp [World.frozen?, ZB.out]
       have z1 : w4.frozen? ⟨w.heap.size, 1, none⟩ = false := by simp [World.frozen?, ZB.out]
       have z2 : w4.frozen? ⟨w.heap.size, 2, none⟩ = false := by simp [World.frozen?, ZB.out]
       have k0 : w4.cell? ⟨w.heap.size, 0, none⟩ = some (.int .i64 0) := cellx ZB.out rfl
       have k1 : w4.cell? ⟨w.heap.size, 1, none⟩ = some (.int .u64 0) := cellx ZB.out rfl
       have k2 : w4.cell? ⟨w.heap.size, 2, none⟩ = some (.int .i64 0) := cellx ZB.out rfl))
  all_goals first
    | (have FIN := hid (show StPost Z w s t p b1 b2 b3 n now l ad W R (w4.alloc (.cells #[.int .i64 x1, .int .u64 x2, .int .i64 x3] 88)) from by obtain ⟨es4, q4, f4⟩ := H4.out; exact ⟨es4, (F1.out.trans f4).trans (.of_below (bl_al w4 _)), q4.below (bl_al w4 _)⟩)
       have e2 : (w4.alloc (.cells #[.int .i64 x1, .int .u64 x2, .int .i64 x3] 88)).cell? ⟨w4.heap.size, 2, none⟩ = some (.int .i64 x3) := cellx (Deep.blk_alloc_new _ _) rfl
       clear H4 c1 c1'
       go_wp2
       go_ret2
       exact ⟨rfl, FIN.out⟩)
    | (have FIN := hid (show StPost Z w s t p b1 b2 b3 n now l ad W R (st98 w4 w.heap.size x1 x2 x3) from by obtain ⟨es4, q4, f4⟩ := H4.out; obtain ⟨q5, f5⟩ := st98_sq (hz := HZ.out) q4 f4 x1 x2 x3; exact ⟨es4, f5, q5⟩)
       have e2 : (st98 w4 w.heap.size x1 x2 x3).cell? ⟨w.heap.size, 2, none⟩ = some (.int .i64 x3) := cellx (st98_blk ZB.out x1 x2 x3) rfl
       clear H4 c1 c1' z0 z1 z2 k0 k1 k2
       go_wp2
       go_ret2
       exact ⟨rfl, FIN.out⟩)
/-- Of the poll's the least one. -/
def SpPost (Z : Nat → Prop) (w0 : World) (s t p b1 b2 b3 n : Nat) (now : Int) (es : Nat → List En) (L : List En) (ad : Nat) (W : List (Int × Int)) (R : List Int) (e : Ending) (w' : World) : Prop :=
  ∃ m y, e = .returned (.tuple #[.int .i64 y, .bool true]) ∧ (m, y) ∈ W ∧ m ∈ R ∧ (∀ a, dueP W R a = true → m ≤ a) ∧ OkPost Z w0 s t p b1 b2 b3 n now es L ad (W.filter fun e => !(e.1 == m)) (R.filter fun a => !(a == m)) w'
theorem dueL_no {L : List En} {x : Int} (h : dueL L x = false) : ∀ y l, L = y :: l → x < y.1 := by
  rintro y l rfl
  have := of_decide_eq_false (show decide (y.1 ≤ x) = false from h)
  omega
theorem dis_filter {g m : Int} (h : waitsG W g = false) : waitsG (W.filter fun e => !(e.1 == m)) g = false := by
  unfold waitsG
  refine decide_eq_false fun hm => (of_decide_eq_false h) ?_
  obtain ⟨e, he, h2⟩ := List.mem_map.1 hm
  exact List.mem_map.2 ⟨e, (List.mem_filter.1 he).1, h2⟩
set_option maxHeartbeats 8000000 in
theorem stake_p (h : Sq Z w s t p b1 b2 b3 n now es L ad W R) (hd : dueL L now = false) (ha : anyDue W R = true) (hl : W.length < 1000000) :
    Calls Try.prog 18 #[.pointer (some ⟨s, 0, none⟩)] w (SpPost Z w s t p b1 b2 b3 n now es L ad W R) := by
  have c1 : w.cell? ⟨s, 1, none⟩ = some (.pointer (some ⟨t, 0, none⟩)) := cellx h.box rfl
  have c1' : ∀ o : Obj, (w.alloc o).cell? ⟨s, 1, none⟩ = some (.pointer (some ⟨t, 0, none⟩)) := fun o => cellx ((h.below (bl_al w o)).box) rfl
  have NW := hid (snow (h.below (bl_drw w _)))
  have NA := hid (snow (h.below (bl_ald w)))
  have H0 := hid h
  have TK := hid (te_none (h.below (bl_drw w w.heap.size)).te now (dueL_no hd))
  have TA := hid (te_none (h.below (bl_ald w)).te now (dueL_no hd))
  have HA := hid ha
  obtain ⟨k, hk⟩ : ∃ k, k = W.length := ⟨_, rfl⟩
  have HK := hid hk
  have hk6 : k < 1000000 := by omega
  clear h hd ha hl hk
  go_enter Try.func18, Try.ntmps18
  go_wp2_with fail
  go_region_with (first
    | (go_at_call 8; refine (NW.out).mono ?_; rintro e w3 ⟨rfl, rfl⟩)
    | (go_at_call 8; refine (NA.out).mono ?_; rintro e w3 ⟨rfl, rfl⟩)
    | (go_at_call 44; refine (TK.out).mono ?_; rintro e w4 ⟨rfl, h4⟩; have H4 := hid ((bl_drw w w.heap.size).trans h4); clear h4)
    | (go_at_call 44; refine (TA.out).mono ?_; rintro e w4 ⟨rfl, h4⟩; have H4 := hid (show Below (w.alloc Z98).drew.heap.size (w.alloc Z98).drew w4 from h4); clear h4; have ZB := hid (show w4.heap[w.heap.size]? = some Z98 from z98_of (B := 0) H4.out); have z0 : w4.frozen? ⟨w.heap.size, 0, none⟩ = false := by simp [World.frozen?, ZB.out]
       have z1 : w4.frozen? ⟨w.heap.size, 1, none⟩ = false := by simp [World.frozen?, ZB.out]
       have z2 : w4.frozen? ⟨w.heap.size, 2, none⟩ = false := by simp [World.frozen?, ZB.out]
       have k0 : w4.cell? ⟨w.heap.size, 0, none⟩ = some (.int .i64 0) := cellx ZB.out rfl
       have k1 : w4.cell? ⟨w.heap.size, 1, none⟩ = some (.int .u64 0) := cellx ZB.out rfl
       have k2 : w4.cell? ⟨w.heap.size, 2, none⟩ = some (.int .i64 0) := cellx ZB.out rfl))
  all_goals first
    | (have B5 := hid (H4.out.trans ((bl_al w4 Z98).mono H4.out.size))
       have H5 := hid (H0.out.below B5.out)
       have c2 : (w4.alloc Z98).cell? ⟨s, 2, none⟩ = some (.pointer (some ⟨p, 0, none⟩)) := cellx H5.out.box rfl
       clear c1 c1' H4 NW NA TK TA
       have PT := hid (ptake H5.out.pq HA.out)
       go_wp2_with fail
       refine (PT.out).mono ?_
       rintro e w6 ⟨m, y, rfl, hm, hmr, hle, f6, q6⟩
       have hpos : 0 < k := by rw [HK.out]; exact List.length_pos_of_mem hm
       obtain ⟨k4, z4, s4, f4⟩ := H5.out.setW (k := (k : Int) - 1) f6 q6 (by rw [len_drop H5.out.pq.n1 hm, ← HK.out]; omega) (fun g hg => dis_filter (H5.out.dis g hg))
       rw [← HK.out] at k4
       have FIN := hid (show SpPost Z w s t p b1 b2 b3 n now es L ad W R (.returned (.tuple #[.int .i64 y, .bool true])) (w6.setCell ⟨s, 4, none⟩ (.int .i64 ((k : Int) - 1))) from ⟨m, y, rfl, hm, hmr, hle, (FrZ.of_below B5.out).trans f4, s4⟩)
       clear f6 q6 hm hmr hle s4 f4 PT H5 c2
       go_wp2
       go_ret2
       exact FIN.out)
    | (have B5 := hid (bl_st98 H4.out 0 0 0)
       have H5 := hid (H0.out.below B5.out)
       have c2 : (st98 w4 w.heap.size 0 0 0).cell? ⟨s, 2, none⟩ = some (.pointer (some ⟨p, 0, none⟩)) := cellx H5.out.box rfl
       clear c1 c1' H4 NW NA TK TA z0 z1 z2 k0 k1 k2
       have PT := hid (ptake H5.out.pq HA.out)
       go_wp2_with fail
       refine (PT.out).mono ?_
       rintro e w6 ⟨m, y, rfl, hm, hmr, hle, f6, q6⟩
       have hpos : 0 < k := by rw [HK.out]; exact List.length_pos_of_mem hm
       obtain ⟨k4, z4, s4, f4⟩ := H5.out.setW (k := (k : Int) - 1) f6 q6 (by rw [len_drop H5.out.pq.n1 hm, ← HK.out]; omega) (fun g hg => dis_filter (H5.out.dis g hg))
       rw [← HK.out] at k4
       have FIN := hid (show SpPost Z w s t p b1 b2 b3 n now es L ad W R (.returned (.tuple #[.int .i64 y, .bool true])) (w6.setCell ⟨s, 4, none⟩ (.int .i64 ((k : Int) - 1))) from ⟨m, y, rfl, hm, hmr, hle, (FrZ.of_below B5.out).trans f4, s4⟩)
       clear f6 q6 hm hmr hle s4 f4 PT H5 c2
       go_wp2
       go_ret2
       exact FIN.out)
set_option maxHeartbeats 8000000 in
theorem stake_n (h : Sq Z w s t p b1 b2 b3 n now es L ad W R) (hd : dueL L now = false) (ha : anyDue W R = false) :
    Calls Try.prog 18 #[.pointer (some ⟨s, 0, none⟩)] w fun e w' => e = .returned (.tuple #[.int .i64 0, .bool false]) ∧ Below w.heap.size w w' := by
  have c1 : w.cell? ⟨s, 1, none⟩ = some (.pointer (some ⟨t, 0, none⟩)) := cellx h.box rfl
  have c1' : ∀ o : Obj, (w.alloc o).cell? ⟨s, 1, none⟩ = some (.pointer (some ⟨t, 0, none⟩)) := fun o => cellx ((h.below (bl_al w o)).box) rfl
  have NW := hid (snow (h.below (bl_drw w _)))
  have NA := hid (snow (h.below (bl_ald w)))
  have H0 := hid h
  have TK := hid (te_none (h.below (bl_drw w w.heap.size)).te now (dueL_no hd))
  have TA := hid (te_none (h.below (bl_ald w)).te now (dueL_no hd))
  have HA := hid ha
  clear h hd ha
  go_enter Try.func18, Try.ntmps18
  go_wp2_with fail
  go_region_with (first
    | (go_at_call 8; refine (NW.out).mono ?_; rintro e w3 ⟨rfl, rfl⟩)
    | (go_at_call 8; refine (NA.out).mono ?_; rintro e w3 ⟨rfl, rfl⟩)
    | (go_at_call 44; refine (TK.out).mono ?_; rintro e w4 ⟨rfl, h4⟩; have H4 := hid ((bl_drw w w.heap.size).trans h4); clear h4)
    | (go_at_call 44; refine (TA.out).mono ?_; rintro e w4 ⟨rfl, h4⟩; have H4 := hid (show Below (w.alloc Z98).drew.heap.size (w.alloc Z98).drew w4 from h4); clear h4; have ZB := hid (show w4.heap[w.heap.size]? = some Z98 from z98_of (B := 0) H4.out); have z0 : w4.frozen? ⟨w.heap.size, 0, none⟩ = false := by simp [World.frozen?, ZB.out]
       have z1 : w4.frozen? ⟨w.heap.size, 1, none⟩ = false := by simp [World.frozen?, ZB.out]
       have z2 : w4.frozen? ⟨w.heap.size, 2, none⟩ = false := by simp [World.frozen?, ZB.out]
       have k0 : w4.cell? ⟨w.heap.size, 0, none⟩ = some (.int .i64 0) := cellx ZB.out rfl
       have k1 : w4.cell? ⟨w.heap.size, 1, none⟩ = some (.int .u64 0) := cellx ZB.out rfl
       have k2 : w4.cell? ⟨w.heap.size, 2, none⟩ = some (.int .i64 0) := cellx ZB.out rfl))
  all_goals first
    | (have B5 := hid (H4.out.trans ((bl_al w4 Z98).mono H4.out.size))
       have H5 := hid (H0.out.below B5.out)
       have c2 : (w4.alloc Z98).cell? ⟨s, 2, none⟩ = some (.pointer (some ⟨p, 0, none⟩)) := cellx H5.out.box rfl
       clear c1 c1' H4 NW NA TK TA
       have PT := hid (ptake_none H5.out.pq HA.out)
       go_wp2_with fail
       refine (PT.out).mono ?_
       rintro e w6 ⟨rfl, b6⟩
       have B6 := hid (B5.out.trans (b6.mono B5.out.size))
       clear b6 PT H5 c2 B5
       go_wp2
       go_ret2
       exact ⟨rfl, B6.out⟩)
    | (have B5 := hid (bl_st98 H4.out 0 0 0)
       have H5 := hid (H0.out.below B5.out)
       have c2 : (st98 w4 w.heap.size 0 0 0).cell? ⟨s, 2, none⟩ = some (.pointer (some ⟨p, 0, none⟩)) := cellx H5.out.box rfl
       clear c1 c1' H4 NW NA TK TA z0 z1 z2 k0 k1 k2
       have PT := hid (ptake_none H5.out.pq HA.out)
       go_wp2_with fail
       refine (PT.out).mono ?_
       rintro e w6 ⟨rfl, b6⟩
       have B6 := hid (B5.out.trans (b6.mono B5.out.size))
       clear b6 PT H5 c2 B5
       go_wp2
       go_ret2
       exact ⟨rfl, B6.out⟩)
end
end Go.Proofs.Ytaogpodncphpjaa
