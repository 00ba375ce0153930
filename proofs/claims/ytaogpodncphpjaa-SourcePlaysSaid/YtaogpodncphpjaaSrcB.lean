/- source.Source's Wait, Take, Next, New. -/
import Derived.Test.YtaogpodncphpjaaSrcA
namespace Go.Proofs.Ytaogpodncphpjaa
set_option linter.unusedVariables false
set_option linter.unusedSimpArgs false
open Go.RowKit
section
variable {Z : Nat → Prop} {w w' : World} {s t p b1 b2 b3 n : Nat} {now : Int} {es : Nat → List En} {L l : List En} {ad : Nat} {W : List (Int × Int)} {R : List Int}
/-- One more waits; the count isn't told yet. -/
theorem Sq.setW (h : Sq Z w s t p b1 b2 b3 n now es L ad W R) {V : List (Int × Int)} {S : List Int} {k : Int} (hf : FrZ (Zp p b1 b2 b3) w w') (hq : Pq (Zp p b1 b2 b3) w' p b1 b2 b3 V S) (hk : k = V.length) (hd : ∀ g, hasG L g = true → waitsG V g = false) :
    w'.cell? ⟨s, 4, none⟩ = some (.int .i64 W.length) ∧ w'.frozen? ⟨s, 4, none⟩ = false ∧ Sq Z (w'.setCell ⟨s, 4, none⟩ (.int .i64 k)) s t p b1 b2 b3 n now es L ad V S ∧ FrZ Z w (w'.setCell ⟨s, 4, none⟩ (.int .i64 k)) := by
  subst hk
  have hb := (hf.block _ h.lt h.ne).trans h.box
  have o : Only s s w' (w'.setCell ⟨s, 4, none⟩ (.int .i64 V.length)) := ⟨rfl, rfl, rfl, by simp [World.setCell], fun k _ h1 _ => Below.heap_setCell _ _ _ _ h1⟩
  refine ⟨cellx hb rfl, by simp [World.frozen?, hb], ⟨by simp [World.setCell, Array.getElem?_modify, hb], (Te.frP h.te hf).only o (.inr (.inl rfl)), hq.only o h.ne, h.now, h.whn, hd, h.zf, h.ne, fun q hq => Nat.lt_of_lt_of_le (Nat.lt_of_lt_of_le (h.hz q hq) hf.size) o.size⟩, (hf.ofP h.zf.2).trans (.of_only o h.zf.1)⟩
set_option maxHeartbeats 8000000 in
theorem swait (h : Sq Z w s t p b1 b2 b3 n now es L ad W R) (hl : W.length < 1000000 ∧ R.length < 1000000) (fd a : Int) (h0 : 0 ≤ a) (h1 : a < 4096) (hw : waitsF W fd = false) (hg : waitsG W a = false) (hh : hasG L a = false) (hf : (!waitsF W fd && !decide (fd ∈ R) && decide (1024 ≤ plen W R)) = false)
    (r : Bool) (hr : dueS now L ((fd, a) :: W) R = r) :
    Calls Try.prog 23 #[.pointer (some ⟨s, 0, none⟩), .int .u16 fd, .int .i64 a] w fun e w' => e = .returned (.tuple #[.bool r, .int .i64 0]) ∧ OkPost Z w s t p b1 b2 b3 n now es L ad ((fd, a) :: W) R w' := by
  have c1 : w.cell? ⟨s, 1, none⟩ = some (.pointer (some ⟨t, 0, none⟩)) := cellx h.box rfl
  have c2 : w.cell? ⟨s, 2, none⟩ = some (.pointer (some ⟨p, 0, none⟩)) := cellx h.box rfl
  have HS := hid (te_has h.te a false hh)
  have PW := hid (pwait h.pq hl fd a h0 h1 hw hg hf)
  have HQ := hid h
  have HR := hid hr
  have HD := hid (show ∀ g, hasG L g = true → waitsG ((fd, a) :: W) g = false from fun g hgl => by
    unfold waitsG
    refine decide_eq_false fun hm => ?_
    rcases List.mem_cons.1 hm with e | hm
    · have e : g = a := e
      rw [e, hh] at hgl; cases hgl
    · have := h.dis g hgl
      exact (of_decide_eq_false this) hm)
  obtain ⟨m, hm⟩ : ∃ m, m = W.length := ⟨_, rfl⟩
  have HM := hid hm
  have hm6 : m < 1000000 := by rw [hm]; exact hl.1
  clear h hl hw hg hh hf hr hm
  go_enter Try.func23, Try.ntmps23
  go_wp2_with fail
  refine (HS.out).mono ?_
  rintro e w' ⟨rfl, rfl⟩
  go_wp2_with fail
  refine (PW.out).mono ?_
  rintro e w3 ⟨rfl, f3, q3⟩
  obtain ⟨k4, z4, s4, f4⟩ := HQ.out.setW (k := (m : Int) + 1) f3 q3 (by rw [HM.out]; simp) HD.out
  rw [← HM.out] at k4
  have D := hid (sdue s4 r HR.out)
  have Q4 := hid s4
  have F4 := hid f4
  clear f3 q3 s4 f4 c1 c2 HS PW
  go_wp2_with fail
  refine (D.out).mono ?_
  rintro e w5 ⟨rfl, b5⟩
  have FIN := hid (show OkPost Z w' s t p b1 b2 b3 n now es L ad ((fd, a) :: W) R w5 from ⟨F4.out.trans (.of_below b5), Q4.out.below b5⟩)
  clear b5 D Q4 F4 k4 z4
  go_wp2
  go_ret2
  exact ⟨rfl, FIN.out⟩
set_option maxHeartbeats 8000000 in
theorem swait_has (h : Sq Z w s t p b1 b2 b3 n now es L ad W R) (fd a : Int) (hh : hasG L a = true) :
    Calls Try.prog 23 #[.pointer (some ⟨s, 0, none⟩), .int .u16 fd, .int .i64 a] w fun e w' => e = .returned (.tuple #[.bool false, .int .i64 8]) ∧ Below w.heap.size w w' := by
  have c1 : w.cell? ⟨s, 1, none⟩ = some (.pointer (some ⟨t, 0, none⟩)) := cellx h.box rfl
  have HS := hid (te_has h.te a true hh)
  clear h hh
  go_enter Try.func23, Try.ntmps23
  go_wp2_with fail
  refine (HS.out).mono ?_
  rintro e w' ⟨rfl, rfl⟩
  go_wp2
  go_ret2
  exact ⟨rfl, Below.refl _ _⟩
set_option maxHeartbeats 8000000 in
theorem swait_err (h : Sq Z w s t p b1 b2 b3 n now es L ad W R) (fd a : Int) (hh : hasG L a = false) (c : Int) (hc : c ≠ 0)
    (PW : Calls Try.prog 47 #[.pointer (some ⟨p, 0, none⟩), .int .u16 fd, .int .i64 a] w fun e w' => e = .returned (.int .i64 c) ∧ Below w.heap.size w w') :
    Calls Try.prog 23 #[.pointer (some ⟨s, 0, none⟩), .int .u16 fd, .int .i64 a] w fun e w' => e = .returned (.tuple #[.bool false, .int .i64 c]) ∧ Below w.heap.size w w' := by
  have c1 : w.cell? ⟨s, 1, none⟩ = some (.pointer (some ⟨t, 0, none⟩)) := cellx h.box rfl
  have c2 : w.cell? ⟨s, 2, none⟩ = some (.pointer (some ⟨p, 0, none⟩)) := cellx h.box rfl
  have HS := hid (te_has h.te a false hh)
  have HP := hid PW
  have hcb : (c == 0) = false := by simpa using hc
  clear h hh PW
  go_enter Try.func23, Try.ntmps23
  go_wp2_with fail
  refine (HS.out).mono ?_
  rintro e w' ⟨rfl, rfl⟩
  go_wp2_with fail
  refine (HP.out).mono ?_
  rintro e w3 ⟨rfl, b3'⟩
  have B := hid b3'
  clear b3' HS HP c1 c2
  go_wp2
  go_ret2
  exact ⟨rfl, B.out⟩
set_option maxHeartbeats 8000000 in
theorem snext0 (h : Sq Z w s t p b1 b2 b3 n now es [] ad W R) : Calls Try.prog 15 #[.pointer (some ⟨s, 0, none⟩)] w fun e w' => e = .returned (.tuple #[.int .i64 0, .bool false]) ∧ Below w.heap.size w w' := by
  have c1 : w.cell? ⟨s, 1, none⟩ = some (.pointer (some ⟨t, 0, none⟩)) := cellx h.box rfl
  have A := hid (te_next0 h.te)
  clear h
  go_enter Try.func15, Try.ntmps15
  go_wp2_with fail
  refine (A.out).mono ?_
  rintro e w3 ⟨rfl, b3'⟩
  have B := hid b3'
  clear b3' A c1
  go_wp2
  go_ret2
  exact ⟨rfl, B.out⟩
set_option maxHeartbeats 8000000 in
theorem snext {x1 x2 x3 : Int} (h : Sq Z w s t p b1 b2 b3 n now es ((x1, x2, x3) :: l) ad W R) : Calls Try.prog 15 #[.pointer (some ⟨s, 0, none⟩)] w fun e w' => e = .returned (.tuple #[.int .i64 x1, .bool true]) ∧ Below w.heap.size w w' := by
  have c1 : w.cell? ⟨s, 1, none⟩ = some (.pointer (some ⟨t, 0, none⟩)) := cellx h.box rfl
  have A := hid (te_next h.te)
  clear h
  go_enter Try.func15, Try.ntmps15
  go_wp2_with fail
  refine (A.out).mono ?_
  rintro e w3 ⟨rfl, b3'⟩
  have B := hid b3'
  clear b3' A c1
  go_wp2
  go_ret2
  exact ⟨rfl, B.out⟩
end
/-- A new source; its foreign blocks: what was there. -/
def SnPost (n : Nat) (w : World) (e : Ending) (w' : World) : Prop :=
  ∃ Z s t p b1 b2 b3, e = .returned (.pointer (some ⟨s, 0, none⟩)) ∧ Sq Z w' s t p b1 b2 b3 n 0 (fun _ => []) [] 0 [] [] ∧ Below w.heap.size w w' ∧ (∀ q, q < w.heap.size → Z q) ∧ ∀ q, Z q → q < w.heap.size
theorem snew_fin {w w2 w3 : World} {t p b1 b2 b3 n : Nat} {es : Nat → List En} {Y : Nat → Prop} (ht : Te (fun q => q < w.heap.size) w2 t n es [] 0) (hb2 : Below w.heap.size w w2) (hq : Pq Y w3 p b1 b2 b3 [] []) (hb3 : Below w2.heap.size w2 w3) (hy : ∀ q, q < w2.heap.size → Y q) :
    Sq (fun q => q < w.heap.size) (w3.alloc (.cells #[.int .i64 0, .pointer (some ⟨t, 0, none⟩), .pointer (some ⟨p, 0, none⟩), .int .i64 n, .int .i64 0] 68)) w3.heap.size t p b1 b2 b3 n 0 es [] 0 [] [] ∧
    Below w.heap.size w (w3.alloc (.cells #[.int .i64 0, .pointer (some ⟨t, 0, none⟩), .pointer (some ⟨p, 0, none⟩), .int .i64 n, .int .i64 0] 68)) := by
  obtain ⟨z1, z2, z3, z4⟩ := hq.zf
  obtain ⟨l1, l2, l3, l4⟩ := hq.lt
  have s2 := hb2.size
  have s3 := hb3.size
  have g1 : w2.heap.size ≤ p := by rcases Nat.lt_or_ge p w2.heap.size with h | h; · exact absurd (hy _ h) z1
                                   · exact h
  have g2 : w2.heap.size ≤ b1 := by rcases Nat.lt_or_ge b1 w2.heap.size with h | h; · exact absurd (hy _ h) z2
                                    · exact h
  have g3 : w2.heap.size ≤ b2 := by rcases Nat.lt_or_ge b2 w2.heap.size with h | h; · exact absurd (hy _ h) z3
                                    · exact h
  have g4 : w2.heap.size ≤ b3 := by rcases Nat.lt_or_ge b3 w2.heap.size with h | h; · exact absurd (hy _ h) z4
                                    · exact h
  have te : Te (Zt (fun q => q < w.heap.size) w3.heap.size p b1 b2 b3) w2 t n es [] 0 := by
    have r := ((((ht.reZ (b := w3.heap.size) (by omega)).reZ (b := p) g1).reZ (b := b1) g2).reZ (b := b2) g3).reZ (b := b3) g4
    refine r.weak fun q hq => ?_
    rcases hq with hq | hq | hq | hq | hq | hq
    · exact .inl (.inl (.inl (.inl (.inl hq))))
    · exact .inl (.inl (.inl (.inl (.inr hq))))
    · exact .inl (.inl (.inl (.inr hq)))
    · exact .inl (.inl (.inr hq))
    · exact .inl (.inr hq)
    · exact .inr hq
  refine ⟨⟨Deep.blk_alloc_new _ _, (te.below hb3).below (bl_al w3 _), (Pq.max hq).below (bl_al w3 _), by unfold inI; omega, fun e he => (by cases he), fun g hg => (by simp [hasG] at hg), ⟨by omega, by omega, by omega, by omega, by omega⟩, ⟨by omega, by omega, by omega, by omega⟩, fun q hq => by simp only [World.size_alloc]; omega⟩, (hb2.trans (hb3.mono s2)).trans ((bl_al w3 _).mono (by omega))⟩
set_option maxHeartbeats 8000000 in
theorem snew (n : Nat) (hn : 1 ≤ (n : Int)) (hn2 : (n : Int) ≤ 64) (w : World) : Calls Try.prog 5 #[.int .i64 n] w (SnPost n w) := by
  have A := hid (te_new n hn hn2 w)
  go_enter Try.func5, Try.ntmps5
  go_wp2_with fail
  refine (A.out).mono ?_
  rintro e w2 ⟨rfl, ht, hb2⟩
  have HT := hid ht
  have HB2 := hid hb2
  obtain ⟨t, htt⟩ : ∃ t, t = w.heap.size + 1 := ⟨_, rfl⟩
  rw [← htt] at HT
  rw [← htt]
  clear ht hb2 A htt
  go_wp2_with fail
  refine (pnewZ _).mono ?_
  rintro e w3 ⟨Y, p, b1, b2, b3, rfl, q3, bl3, hz, _⟩
  have FIN := hid (snew_fin HT.out HB2.out q3 bl3 hz)
  clear q3 bl3 hz HT HB2
  go_wp2
  go_ret
  exact ⟨_, _, t, p, b1, b2, b3, rfl, FIN.out.1, FIN.out.2, fun q h => h, fun q h => h⟩
end Go.Proofs.Ytaogpodncphpjaa
