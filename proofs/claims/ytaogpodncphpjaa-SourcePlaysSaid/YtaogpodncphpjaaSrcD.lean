/- source.Source.Due, and what hangs on it: Tick, Ready. -/
import Derived.Test.YtaogpodncphpjaaPre2
import Derived.Deep.RegionHeld3
import Derived.Deep.CutRange
namespace Go.Proofs.Ytaogpodncphpjaa
set_option linter.unusedVariables false
set_option linter.unusedSimpArgs false
open Go.RowKit
section
variable {Z : Nat → Prop} {w w' : World} {s t p b1 b2 b3 n : Nat} {now : Int} {es : Nat → List En} {L : List En} {ad : Nat} {W : List (Int × Int)} {R : List Int}
set_option maxHeartbeats 8000000 in
theorem sdue (h : Sq Z w s t p b1 b2 b3 n now es L ad W R) (r : Bool) (hr : dueS now L W R = r) : Calls Try.prog 9 #[.pointer (some ⟨s, 0, none⟩)] w fun e w' => e = .returned (.bool r) ∧ Below w.heap.size w w' := by
  have c1 : w.cell? ⟨s, 1, none⟩ = some (.pointer (some ⟨t, 0, none⟩)) := cellx h.box rfl
  have c1' : w.drew.cell? ⟨s, 1, none⟩ = some (.pointer (some ⟨t, 0, none⟩)) := cellx h.box rfl
  have NW := hid (snow (h.below (bl_drw w _)))
  have HQ := hid h
  unfold dueS at hr
  rcases hd : dueL L now with _ | _
  · rw [hd, Bool.false_or] at hr
    have TD := hid (te_due (h.below (bl_drw w _)).te now false hd)
    have HR := hid hr
    clear h hr hd
    go_enter Try.func9, Try.ntmps9
    go_wp2_with fail
    go_region_with (first
      | (go_at_call 8; refine (NW.out).mono ?_; rintro e w3 ⟨rfl, rfl⟩)
      | (go_at_call 31; refine (TD.out).mono ?_; rintro e w4 ⟨rfl, b4⟩; have B4 := hid ((bl_drw w w.heap.size).trans b4); have c2 : w4.cell? ⟨s, 2, none⟩ = some (.pointer (some ⟨p, 0, none⟩)) := cellx (HQ.out.below B4.out).box rfl)
      | (go_at_call 32; refine (pdue (HQ.out.below B4.out).pq).mono ?_; rintro e w5 ⟨rfl, b5⟩; have B5 := hid (B4.out.trans (b5.mono B4.out.size)); clear b5))
    all_goals
      go_wp2
      go_ret
      exact ⟨by rw [← HR.out]; rfl, B5.out⟩
  · obtain rfl : r = true := by rw [← hr, hd]; rfl
    have NX := hid (fun (y : World) (hb : Below w.heap.size w y) => snow (h.below hb))
    have TX := hid (fun (y : World) (hb : Below w.heap.size w y) => te_due (h.below hb).te now true hd)
    have SX := hid (fun (y : World) (hb : Below w.heap.size w y) => (show y.cell? ⟨s, 1, none⟩ = some (.pointer (some ⟨t, 0, none⟩)) from cellx (h.below hb).box rfl))
    have HD := hid (bl_drw w w.heap.size)
    clear h hr hd NW HQ
    go_enter Try.func9, Try.ntmps9
    go_upto_region 1 with (fail)
    refine wp_region_held_drew (S := fun w' => w'.cell? ⟨s, 1, none⟩ = some (.pointer (some ⟨t, 0, none⟩))) (by kernel_rfl) (SX.out _ HD.out) (fun hHeld => ?_)
    refine wpAnyH_take (i := 0) (oi := _) (v := ?_) rfl (by kernel_rfl) (by kernel_rfl) (by kernel_rfl) (fun _ _ _ h => h) (Or.inl ⟨by rfl, ?_⟩) (by assumption) ?_
    rotate_left
    · intro w hSw
      try dsimp only at hSw
      go_simp
      with_reducible rfl
    try simp only [Act.put, List.getElem_toArray, List.getElem_cons_zero, List.getElem_cons_succ, List.setIfInBounds_toArray, List.set_cons_zero, List.set_cons_succ]
    refine wpAnyH_take (i := 1) (oi := _) (v := ?_) rfl (by kernel_rfl) (by kernel_rfl) (by kernel_rfl) (fun _ _ _ h => h) (Or.inl ⟨by rfl, ?_⟩) (by assumption) ?_
    rotate_left
    · intro w hSw
      try dsimp only at hSw
      go_simp
      with_reducible rfl
    try simp only [Act.put, List.getElem_toArray, List.getElem_cons_zero, List.getElem_cons_succ, List.setIfInBounds_toArray, List.set_cons_zero, List.set_cons_succ]
    refine wpAnyH_take (i := 2) (oi := _) (v := ?_) rfl (by kernel_rfl) (by kernel_rfl) (by kernel_rfl) (fun _ _ _ h => h) (Or.inl ⟨by rfl, ?_⟩) (by assumption) ?_
    rotate_left
    · intro w hSw
      try dsimp only at hSw
      go_simp
      with_reducible rfl
    try simp only [Act.put, List.getElem_toArray, List.getElem_cons_zero, List.getElem_cons_succ, List.setIfInBounds_toArray, List.set_cons_zero, List.set_cons_succ]
    refine wpAnyH_take (i := 3) (oi := _) (v := ?_) rfl (by kernel_rfl) (by kernel_rfl) (by kernel_rfl) (fun _ _ _ h => h) (Or.inl ⟨by rfl, ?_⟩) (by assumption) ?_
    rotate_left
    · intro w hSw
      try dsimp only at hSw
      go_simp
      with_reducible rfl
    try simp only [Act.put, List.getElem_toArray, List.getElem_cons_zero, List.getElem_cons_succ, List.setIfInBounds_toArray, List.set_cons_zero, List.set_cons_succ]
    refine wpAnyH_take (i := 4) (oi := _) (v := ?_) rfl (by kernel_rfl) (by kernel_rfl) (by kernel_rfl) (fun _ _ _ h => h) (Or.inl ⟨by rfl, ?_⟩) (by assumption) ?_
    rotate_left
    · intro w hSw
      try dsimp only at hSw
      go_simp
      with_reducible rfl
    try simp only [Act.put, List.getElem_toArray, List.getElem_cons_zero, List.getElem_cons_succ, List.setIfInBounds_toArray, List.set_cons_zero, List.set_cons_succ]
    refine wpAnyH_ready (rs := [5]) (by kernel_rfl) (by simp) ?_
    refine AllReadyH.cons (o := _) rfl (fun K hK => ?_) AllReadyH.nil
    go_simp
    go_at_call 8
    refine (NX.out _ HD.out).mono ?_
    rintro e w7 ⟨rfl, rfl⟩
    go_wp2_with fail
    refine hK.out _ _ (SX.out _ HD.out) (fun hHeld => ?_)
    clear hK K
    try simp only [Act.put, List.getElem_toArray, List.getElem_cons_zero, List.getElem_cons_succ, List.setIfInBounds_toArray, List.set_cons_zero, List.set_cons_succ]
    refine wpAnyH_ready (rs := [6]) (by kernel_rfl) (by simp) ?_
    refine AllReadyH.cons (o := _) rfl (fun K hK => ?_) AllReadyH.nil
    go_simp
    go_at_call 31
    refine (TX.out _ HD.out).mono ?_
    rintro e w8 ⟨rfl, h8⟩
    have B8 := hid (HD.out.trans (h8.mono HD.out.size))
    clear h8
    go_wp2_with fail
    refine hK.out _ _ (SX.out _ B8.out) (fun hHeld => ?_)
    clear hK K
    try simp only [Act.put, List.getElem_toArray, List.getElem_cons_zero, List.getElem_cons_succ, List.setIfInBounds_toArray, List.set_cons_zero, List.set_cons_succ]
    refine wpAnyH_take (i := 7) (oi := _) (v := ?_) rfl (by kernel_rfl) (by kernel_rfl) (by kernel_rfl) (fun _ _ _ h => h) (Or.inl ⟨by rfl, ?_⟩) (by assumption) ?_
    rotate_left
    · intro w hSw
      try dsimp only at hSw
      go_simp
      with_reducible rfl
    try simp only [Act.put, List.getElem_toArray, List.getElem_cons_zero, List.getElem_cons_succ, List.setIfInBounds_toArray, List.set_cons_zero, List.set_cons_succ]
    refine wpAnyH_take (i := 8) (oi := _) (v := undef) rfl (by kernel_rfl) (by kernel_rfl) (by kernel_rfl) (fun _ _ _ h => h) (Or.inr ⟨by rfl, rfl⟩) (by assumption) ?_
    try simp only [Act.put, List.getElem_toArray, List.getElem_cons_zero, List.getElem_cons_succ, List.setIfInBounds_toArray, List.set_cons_zero, List.set_cons_succ]
    refine wpAnyH_take (i := 9) (oi := _) (v := undef) rfl (by kernel_rfl) (by kernel_rfl) (by kernel_rfl) (fun _ _ _ h => h) (Or.inr ⟨by rfl, rfl⟩) (by assumption) ?_
    try simp only [Act.put, List.getElem_toArray, List.getElem_cons_zero, List.getElem_cons_succ, List.setIfInBounds_toArray, List.set_cons_zero, List.set_cons_succ]
    refine wpAnyH_take (i := 10) (oi := _) (v := undef) rfl (by kernel_rfl) (by kernel_rfl) (by kernel_rfl) (fun _ _ _ h => h) (Or.inr ⟨by rfl, rfl⟩) (by assumption) ?_
    try simp only [Act.put, List.getElem_toArray, List.getElem_cons_zero, List.getElem_cons_succ, List.setIfInBounds_toArray, List.set_cons_zero, List.set_cons_succ]
    refine wpAnyH_take (i := 11) (oi := _) (v := undef) rfl (by kernel_rfl) (by kernel_rfl) (by kernel_rfl) (fun _ _ _ h => h) (Or.inr ⟨by rfl, rfl⟩) (by assumption) ?_
    try simp only [Act.put, List.getElem_toArray, List.getElem_cons_zero, List.getElem_cons_succ, List.setIfInBounds_toArray, List.set_cons_zero, List.set_cons_succ]
    refine wpAnyH_take (i := 12) (oi := _) (v := undef) rfl (by kernel_rfl) (by kernel_rfl) (by kernel_rfl) (fun _ _ _ h => h) (Or.inr ⟨by rfl, rfl⟩) (by assumption) ?_
    try simp only [Act.put, List.getElem_toArray, List.getElem_cons_zero, List.getElem_cons_succ, List.setIfInBounds_toArray, List.set_cons_zero, List.set_cons_succ]
    refine wpAnyH_take (i := 13) (oi := _) (v := ?_) rfl (by kernel_rfl) (by kernel_rfl) (by kernel_rfl) (fun _ _ _ h => h) (Or.inl ⟨by rfl, ?_⟩) (by assumption) ?_
    rotate_left
    · intro w hSw
      try dsimp only at hSw
      go_simp
      with_reducible rfl
    try simp only [Act.put, List.getElem_toArray, List.getElem_cons_zero, List.getElem_cons_succ, List.setIfInBounds_toArray, List.set_cons_zero, List.set_cons_succ]
    refine wpAnyH_take (i := 14) (oi := _) (v := ?_) rfl (by kernel_rfl) (by kernel_rfl) (by kernel_rfl) (fun _ _ _ h => h) (Or.inl ⟨by rfl, ?_⟩) (by assumption) ?_
    rotate_left
    · intro w hSw
      try dsimp only at hSw
      go_simp
      with_reducible rfl
    try simp only [Act.put, List.getElem_toArray, List.getElem_cons_zero, List.getElem_cons_succ, List.setIfInBounds_toArray, List.set_cons_zero, List.set_cons_succ]
    refine wpAnyH_done (by kernel_rfl) ?_ _
    go_wp2
    go_ret
    exact ⟨rfl, B8.out⟩
/-- What was told beside OK: is something due? -/
def OkPost (Z : Nat → Prop) (w0 : World) (s t p b1 b2 b3 n : Nat) (now : Int) (es : Nat → List En) (L : List En) (ad : Nat) (W : List (Int × Int)) (R : List Int) (w' : World) : Prop := FrZ Z w0 w' ∧ Sq Z w' s t p b1 b2 b3 n now es L ad W R
theorem Sq.tick (h : Sq Z w s t p b1 b2 b3 n now es L ad W R) {m : Int} (hm : inI m) : Sq Z (w.setCell ⟨s, 0, none⟩ (.int .i64 m)) s t p b1 b2 b3 n m es L ad W R ∧ FrZ Z w (w.setCell ⟨s, 0, none⟩ (.int .i64 m)) := by
  have o : Only s s w (w.setCell ⟨s, 0, none⟩ (.int .i64 m)) := ⟨rfl, rfl, rfl, by simp [World.setCell], fun k _ h1 _ => Below.heap_setCell _ _ _ _ h1⟩
  exact ⟨⟨by simp [World.setCell, Array.getElem?_modify, h.box], h.te.only o (.inr (.inl rfl)), h.pq.only o ⟨h.ne.1, h.ne.2.1, h.ne.2.2.1, h.ne.2.2.2⟩, hm, h.whn, h.dis, h.zf, h.ne, fun q hq => Nat.lt_of_lt_of_le (h.hz q hq) o.size⟩, .of_only o h.zf.1⟩
set_option maxHeartbeats 8000000 in
theorem stick (h : Sq Z w s t p b1 b2 b3 n now es L ad W R) (d : Int) (hd : inI d) (r : Bool) (hr : dueS (sat now (max d 0)) L W R = r) :
    Calls Try.prog 17 #[.pointer (some ⟨s, 0, none⟩), .int .i64 d] w fun e w' => e = .returned (.bool r) ∧ OkPost Z w s t p b1 b2 b3 n (sat now (max d 0)) es L ad W R w' := by
  have A := hid (ctick s now d w (cellx h.box rfl) (by have := h.box; simp [World.frozen?, this]) h.now hd)
  obtain ⟨q, f⟩ := h.tick (sat_inI now (max d 0))
  have D := hid (sdue q r hr)
  have QQ := hid q
  have FF := hid f
  clear h hd hr q f
  generalize sat now (max d 0) = y at *
  go_enter Try.func17, Try.ntmps17
  go_wp2_with fail
  refine (A.out).mono ?_
  rintro e w2 ⟨⟨v, rfl⟩, rfl⟩
  go_wp2_with fail
  refine (D.out).mono ?_
  rintro e w3 ⟨rfl, b3'⟩
  have FIN := hid (show OkPost Z w s t p b1 b2 b3 n y es L ad W R w3 from ⟨FF.out.trans (.of_below b3'), QQ.out.below b3'⟩)
  clear b3' D QQ FF A
  go_wp2
  go_ret
  exact ⟨rfl, FIN.out⟩
/-- A deed of the poll's keeps the rest. -/
theorem Te.frP (h : Te (Zt Z s p b1 b2 b3) w t n es L ad) (hf : FrZ (Zp p b1 b2 b3) w w') : Te (Zt Z s p b1 b2 b3) w' t n es L ad := by
  obtain ⟨⟨hb', mb, c, hp, v, h1⟩, h2⟩ := h
  obtain ⟨z1, z2, z3⟩ := h1.zf
  obtain ⟨l1, l2, l3⟩ := h1.lt
  have k : ∀ x, x < w.heap.size → ¬ Zt Z s p b1 b2 b3 x → w'.heap[x]? = w.heap[x]? := fun x hx hz => hf.block x hx ⟨fun e => hz (by subst e; simp [Zt]), fun e => hz (by subst e; simp [Zt]), fun e => hz (by subst e; simp [Zt]), fun e => hz (by subst e; simp [Zt])⟩
  exact ⟨⟨hb', mb, c, hp, v, h1.kept (k _ l1 z1.1) (k _ l2 z1.2.1) (k _ l3 z1.2.2) hf.size (fun i hi => k _ (h1.he i hi).lt (z2 i hi)) (fun i hi q hq => k _ (own_lt0 (h1.he i hi) hq) (z3 i hi q hq))⟩, h2⟩
theorem FrZ.ofP (h : FrZ (Zp p b1 b2 b3) w w') (hz : ¬ Z p ∧ ¬ Z b1 ∧ ¬ Z b2 ∧ ¬ Z b3) : FrZ Z w w' :=
  ⟨h.os, h.tape, h.output, h.size, fun x hx hzx => h.block x hx ⟨fun e => hz.1 (e ▸ hzx), fun e => hz.2.1 (e ▸ hzx), fun e => hz.2.2.1 (e ▸ hzx), fun e => hz.2.2.2 (e ▸ hzx)⟩⟩
theorem FrZ.ofT (h : FrZ (Zt Z s p b1 b2 b3) w w') : FrZ Z w w' := ⟨h.os, h.tape, h.output, h.size, fun x hx hzx => h.block x hx (.inl hzx)⟩
theorem Pq.max {Y : Nat → Prop} (h : Pq Y w p b1 b2 b3 W R) : Pq (Zp p b1 b2 b3) w p b1 b2 b3 W R := ⟨h.box, h.m1, h.m2, h.m3, h.n1, h.n2, h.n3, h.ne, fun h => h.1 rfl, fun h => h.2.1 rfl, fun h => h.2.2.1 rfl, fun h => h.2.2.2 rfl⟩
theorem Sq.ready {R' : List Int} (h : Sq Z w s t p b1 b2 b3 n now es L ad W R) (hr : RePost (Zp p b1 b2 b3) w p b1 b2 b3 W R' w') : Sq Z w' s t p b1 b2 b3 n now es L ad W R' ∧ FrZ Z w w' :=
  ⟨⟨(hr.1.block _ h.lt h.ne).trans h.box, Te.frP h.te hr.1, hr.2, h.now, h.whn, h.dis, h.zf, h.ne, fun q hq => Nat.lt_of_lt_of_le (h.hz q hq) hr.1.size⟩, hr.1.ofP h.zf.2⟩
set_option maxHeartbeats 8000000 in
theorem sready (h : Sq Z w s t p b1 b2 b3 n now es L ad W R) (hl : W.length < 1000000 ∧ R.length < 1000000) (fd : Int) (hf : (!waitsF W fd && !decide (fd ∈ R) && decide (1024 ≤ plen W R)) = false) (r : Bool) (hr : dueS now L W (addR R fd) = r) :
    Calls Try.prog 26 #[.pointer (some ⟨s, 0, none⟩), .int .u16 fd] w fun e w' => e = .returned (.tuple #[.bool r, .int .i64 0]) ∧ OkPost Z w s t p b1 b2 b3 n now es L ad W (addR R fd) w' := by
  have c2 : w.cell? ⟨s, 2, none⟩ = some (.pointer (some ⟨p, 0, none⟩)) := cellx h.box rfl
  have A := hid (pready h.pq hl fd hf)
  have HQ := hid h
  have HR := hid hr
  clear h hl hf hr
  go_enter Try.func26, Try.ntmps26
  go_wp2_with fail
  refine (A.out).mono ?_
  rintro e w2 ⟨rfl, hr2⟩
  obtain ⟨q2, f2⟩ := HQ.out.ready hr2
  have Q2 := hid q2
  have F2 := hid f2
  have D := hid (sdue q2 r HR.out)
  clear hr2 q2 f2 A c2
  go_wp2_with fail
  refine (D.out).mono ?_
  rintro e w3 ⟨rfl, b3'⟩
  have FIN := hid (show OkPost Z w s t p b1 b2 b3 n now es L ad W (addR R fd) w3 from ⟨F2.out.trans (.of_below b3'), Q2.out.below b3'⟩)
  clear b3' D Q2 F2
  go_wp2
  go_ret2
  exact ⟨rfl, FIN.out⟩
set_option maxHeartbeats 8000000 in
theorem sready_full (h : Sq Z w s t p b1 b2 b3 n now es L ad W R) (hl : W.length < 1000000 ∧ R.length < 1000000) (fd : Int) (hf : (!waitsF W fd && !decide (fd ∈ R) && decide (1024 ≤ plen W R)) = true) :
    Calls Try.prog 26 #[.pointer (some ⟨s, 0, none⟩), .int .u16 fd] w fun e w' => e = .returned (.tuple #[.bool false, .int .i64 2]) ∧ Below w.heap.size w w' := by
  have c2 : w.cell? ⟨s, 2, none⟩ = some (.pointer (some ⟨p, 0, none⟩)) := cellx h.box rfl
  have A := hid (pready_full h.pq hl fd hf)
  clear h hl hf
  go_enter Try.func26, Try.ntmps26
  go_wp2_with fail
  refine (A.out).mono ?_
  rintro e w2 ⟨rfl, b2'⟩
  have B := hid b2'
  clear b2' A c2
  go_wp2
  go_ret2
  exact ⟨rfl, B.out⟩
end
end Go.Proofs.Ytaogpodncphpjaa
