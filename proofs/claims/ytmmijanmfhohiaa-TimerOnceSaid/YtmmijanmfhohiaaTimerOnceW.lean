/- The walk of the statement TimerOnce: the law answers true and turns nothing that was there. -/
import Derived.Test.YtmmijanmfhohiaaLives10
import Derived.Test.YtmmijanmfhohiaaTimZ
import Derived.Test.YtmmijanmfhohiaaCmT
namespace Go.Proofs.Ytmmijanmfhohiaa.timerOnce
open Go.RowKit Tk
set_option linter.unusedVariables false
set_option linter.unusedSimpArgs false

/-- What stands between two deeds. -/
structure To (w : World) (Z : Nat → Prop) (t mb : Nat) (ad : Nat) (es : Nat → List En) (L : List En) (ks : List Int) (wr : World) : Prop where
  te : Te Z wr t 3 es L ad
  cm : Cm wr mb ks
  ky : ∀ a, a ∈ ks ↔ hasG L a = true
  ln : ks.length = L.length
  gs : ∀ e ∈ L, (e.1 = 5 ∨ e.1 = 9) ∧ 0 ≤ e.2.2 ∧ e.2.2 < 4096
  bl : Below w.heap.size w wr
  hz : ∀ q, Z q → q < wr.heap.size
  zb : (∀ q, q < w.heap.size → Z q) ∧ Z mb
def five (L : List En) : Nat := (L.filter fun e => e.1 == 5).length
section
variable {w : World} {Z : Nat → Prop} {t mb ad : Nat} {es : Nat → List En} {L : List En} {ks : List Int} {wr w' : World}
theorem To.below (h : To w Z t mb ad es L ks wr) (hb : Below wr.heap.size wr w') : To w Z t mb ad es L ks w' :=
  ⟨h.te.below hb, h.cm.kept (hb.block _ h.cm.lt), h.ky, h.ln, h.gs, h.bl.trans (hb.mono h.bl.size), fun q hq => Nat.lt_of_lt_of_le (h.hz q hq) hb.size, h.zb⟩
theorem five_ins (x : En) (L : List En) : five (insF x L) = five L + if x.1 = 5 then 1 else 0 := by
  have h := ((insF_perm x L).filter fun e => e.1 == 5).length_eq
  unfold five
  rw [h, List.filter_cons]
  by_cases hx : x.1 = 5 <;> simp [hx]
/-- One more in the first loop; the map isn't told yet. -/
theorem To.add (h : To w Z t mb ad es L ks wr) {p : Nat} {x : Int} {g : Int} (hx : x = 5 ∨ x = 9) (hg : 0 ≤ g ∧ g < 4096) (ha : TeAdd Z wr t 3 es L ad p (x, (ad : Int), g) w') :
    (∃ T, Te Z w' t 3 (updN es p T) (insF (x, (ad : Int), g) L) (ad + 1)) ∧ Cm w' mb ks ∧ Below w.heap.size w w' ∧ (∀ q, Z q → q < w'.heap.size) ∧ (∀ e ∈ insF (x, (ad : Int), g) L, (e.1 = 5 ∨ e.1 = 9) ∧ 0 ≤ e.2.2 ∧ e.2.2 < 4096) := by
  obtain ⟨hf, T, _, ht⟩ := ha
  refine ⟨⟨T, ht⟩, h.cm.kept (hf.block _ h.cm.lt h.zb.2), h.bl.trans (hf.below h.zb.1 h.bl.size), fun q hq => Nat.lt_of_lt_of_le (h.hz q hq) hf.size, fun e he => ?_⟩
  rcases mem_ins.1 he with rfl | he
  · exact ⟨hx, hg⟩
  · exact h.gs e he
theorem To.put {w5 w6 : World} {g : Int} {y : En} {es' : Nat → List En} (hy : y.2.2 = g) (h : To w Z t mb ad es L ks wr) (h1 : Te Z w5 t 3 es' (insF y L) (ad + 1)) (h2 : Cm w6 mb (ks ++ [g])) (h3 : Below w.heap.size w w5)
    (h4 : ∀ q, Z q → q < w5.heap.size) (h5 : ∀ e ∈ insF y L, (e.1 = 5 ∨ e.1 = 9) ∧ 0 ≤ e.2.2 ∧ e.2.2 < 4096) (o : Only mb mb w5 w6) (hm : w.heap.size ≤ mb) : To w Z t mb (ad + 1) es' (insF y L) (ks ++ [g]) w6 := by
  obtain ⟨⟨hb', m2, c, hp, v, q1⟩, q2⟩ := h1
  have n1 := q1.zf.1
  have hzm := h.zb.2
  refine ⟨⟨⟨hb', m2, c, hp, v, q1.other o ⟨fun e => n1.1 (e ▸ hzm), fun e => n1.2.1 (e ▸ hzm), fun e => n1.2.2 (e ▸ hzm)⟩ (fun i hi e => q1.zf.2.1 i hi (e ▸ hzm)) (fun i hi e => q1.zf.2.2 i hi mb e hzm)⟩, q2⟩, h2, fun a => ?_, ?_, h5, h3.trans (o.below hm hm h3.size), fun q hq => Nat.lt_of_lt_of_le (h4 q hq) o.size, h.zb⟩
  · rw [hasG_ins, List.mem_append, List.mem_singleton, h.ky a]
    subst hy
    by_cases ha : a = y.2.2 <;> simp [ha]
  · rw [List.length_append, len_ins, h.ln]; rfl
end
/-- What stands between two rounds of the second loop. -/
structure To2 (w : World) (Z : Nat → Prop) (t mb m : Nat) (ad : Nat) (es : Nat → List En) (L : List En) (ks : List Int) (wr : World) : Prop where
  te : Te Z wr t 3 es L ad
  cm : Cm wr mb ks
  ln : ks.length = m ∧ L.length = m
  gs : ∀ e ∈ L, (e.1 = 5 ∨ e.1 = 9) ∧ 0 ≤ e.2.2 ∧ e.2.2 < 4096
  bl : Below w.heap.size w wr
  hz : ∀ q, Z q → q < wr.heap.size
  zb : (∀ q, q < w.heap.size → Z q) ∧ Z mb
theorem five_pos {L : List En} (hs : L.Pairwise leE) (hg : ∀ e ∈ L, (e.1 = 5 ∨ e.1 = 9) ∧ 0 ≤ e.2.2 ∧ e.2.2 < 4096) (h : 0 < five L) : ∃ x2 x3 l, L = (5, x2, x3) :: l ∧ 0 ≤ x3 ∧ x3 < 4096 := by
  rcases L with _ | ⟨⟨x1, x2, x3⟩, l⟩
  · simp [five] at h
  have h0 := hg _ List.mem_cons_self
  refine ⟨x2, x3, l, ?_, h0.2⟩
  rcases h0.1 with h1 | h1
  · simp only at h1; rw [h1]
  · exfalso
    unfold five at h
    obtain ⟨e, he⟩ := List.exists_mem_of_length_pos h
    obtain ⟨hm, h5⟩ := List.mem_filter.1 he
    have h5 : e.1 = 5 := by simpa using h5
    rcases List.mem_cons.1 hm with rfl | hm
    · omega
    · have := leE_when ((List.pairwise_cons.1 hs).1 e hm)
      omega
theorem five_none {L : List En} (hg : ∀ e ∈ L, (e.1 = 5 ∨ e.1 = 9) ∧ 0 ≤ e.2.2 ∧ e.2.2 < 4096) (h : five L = 0) : dueL L 8 = false := by
  rcases L with _ | ⟨x, l⟩
  · rfl
  · rcases (hg x List.mem_cons_self).1 with h1 | h1
    · simp [five, h1] at h
    · simp [dueL, h1]
set_option maxRecDepth 100000 in
set_option maxHeartbeats 16000000 in
theorem walk (a0 : Option Addr) (len0 cap0 : Nat) (z0 : List Int) (w : World) (w0 : IsRow .i64 w a0 len0 cap0 z0) :
    Calls Try.prog 6 #[.slice a0 len0 cap0] w fun e w' => e = .returned (.bool true) ∧ Below w.heap.size w w' := by
  by_cases hlen : (40 : Int) < len0
  · go_enter Try.func6, Try.ntmps6
    go_wp2_with fail
    refine (lives10 _).mono ?_
    rintro e w2 ⟨rfl, hb1⟩
    go_wp2_with fail
    refine (lives10 _).mono ?_
    rintro e w3 ⟨rfl, hb2⟩
    go_wp2
    go_ret
    exact ⟨rfl, hb1.trans (hb2.mono hb1.size)⟩
  · have hlen' : len0 ≤ 40 := by omega
    have W0 := hid w0
    clear w0
    go_enter Try.func6, Try.ntmps6
    go_wp2_with fail
    refine (lives10 _).mono ?_
    rintro e w2 ⟨rfl, hb1⟩
    have hs1 := hb1.size
    go_wp2_with fail
    refine (te_new 3 (by decide) (by decide) w2).mono ?_
    rintro e w3 ⟨rfl, h3, b3⟩
    obtain ⟨Z, hZ⟩ : ∃ Z : Nat → Prop, Z = fun q => q < w2.heap.size ∨ q = w3.heap.size := ⟨_, rfl⟩
    obtain ⟨t, ht⟩ : ∃ t, t = w2.heap.size + 1 := ⟨_, rfl⟩
    obtain ⟨mb, hmb⟩ : ∃ t, t = w3.heap.size := ⟨_, rfl⟩
    have s3 := b3.size
    have S0 : Hid (To w Z t mb 0 (fun _ => []) [] [] (w3.alloc (.map #[] 0))) := by
      have hr := (Te.reZ h3 (Nat.le_refl w3.heap.size)).below (bl_al w3 (.map #[] 0))
      rw [← hZ, ← ht] at hr
      refine ⟨hr, by rw [hmb]; exact Cm.new w3, fun a => by simp [hasG], rfl, fun e he => (by cases he), (hb1.trans (b3.mono hs1)).trans ((bl_al w3 _).mono (by omega)), fun q hq => ?_, fun q hq => ?_, ?_⟩
      · rw [hZ] at hq; simp only [World.size_alloc]; rcases hq with hq | hq <;> omega
      · rw [hZ]; left; omega
      · rw [hZ, hmb]; exact .inr rfl
    have HM := hid (show w.heap.size ≤ mb by omega)
    have mk := mkM w3
    rw [← hmb] at mk
    rw [← ht]
    clear hZ ht h3 b3 hb1
    go_wp2_with fail
    clear mk
    rw [← hmb]
    clear hmb s3
    go_loopw [22] (fun i wr => ∃ (k ad : Nat) (es : Nat → List En) (L : List En) (ks : List Int), k ≤ len0 ∧ i = .int .i64 k ∧ Hid (To w Z t mb ad es L ks wr ∧ ad ≤ k ∧ L.length ≤ k ∧ five L = L.length) ∧ Below w.heap.size w wr) (fun i _ => len0 - (intOf i).toNat)
    case atStart => exact ⟨0, 0, _, [], [], by omega, rfl, hid ⟨S0.out, by omega, by simp, rfl⟩, S0.out.bl⟩
    case round =>
      clear S0
      obtain ⟨k, ad, es, L, ks, hk, rfl, F, hbr⟩ := hrel
      by_cases hlt : k < len0
      · obtain ⟨bx, off, rfl, hzl, hwf, hcell⟩ := W0.out.open.resolve_left (by omega)
        have hy := hcell _ hbr k hlt
        obtain ⟨y, hye⟩ : ∃ y, y = z0.getD k 0 := ⟨_, rfl⟩
        rw [← hye] at hy
        clear hcell hwf hzl hye
        have k3 : 0 ≤ (k : Int) % 3 := by omega
        have k3' : (k : Int) % 3 < 3 := by omega
        obtain ⟨HF, ha1, ha2, ha3⟩ := F.out
        have K1 := hid k3
        have K2 := hid k3'
        by_cases hbad : y < 0 ∨ 4096 ≤ y
        · have A := hid (te_arg HF.te ((k : Int) % 3) y 5 (.inr (.inr hbad)))
          have F2 : Hid (To w Z t mb ad es L ks wr ∧ ad ≤ k + 1 ∧ L.length ≤ k + 1 ∧ five L = L.length) := hid ⟨F.out.1, by have := F.out.2.1; omega, by have := F.out.2.2.1; omega, F.out.2.2.2⟩
          clear HF ha1 ha2 ha3 F
          rcases hbad with hb | hb
          · have d1 : decide (y < 0) = true := decide_eq_true hb
            go_wp2_with fail
            refine (A.out).mono ?_
            rintro e w5 ⟨rfl, rfl⟩
            go_wp2
            go_roundw
            case rel => exact ⟨k + 1, ad, es, L, ks, by omega, by go_num, F2, hbr⟩
            case measure => simp [intOf]; omega
          · have d1 : decide (y < 0) = false := decide_eq_false (by omega)
            have d2 : decide (4096 ≤ y) = true := decide_eq_true hb
            go_wp2_with fail
            refine (A.out).mono ?_
            rintro e w5 ⟨rfl, rfl⟩
            go_wp2
            go_roundw
            case rel => exact ⟨k + 1, ad, es, L, ks, by omega, by go_num, F2, hbr⟩
            case measure => simp [intOf]; omega
        · have y0 : 0 ≤ y := by omega
          have y1 : y < 4096 := by omega
          have d1 : decide (y < 0) = false := decide_eq_false (by omega)
          have d2 : decide (4096 ≤ y) = false := decide_eq_false (by omega)
          clear hbad
          by_cases hin : hasG L y = true
          · have A := hid (te_sameI HF.te ((k : Int) % 3) y k3 k3' y0 y1 5 hin)
            have F2 : Hid (To w Z t mb ad es L ks wr ∧ ad ≤ k + 1 ∧ L.length ≤ k + 1 ∧ five L = L.length) := hid ⟨F.out.1, by have := F.out.2.1; omega, by have := F.out.2.2.1; omega, F.out.2.2.2⟩
            have lk := HF.cm.hit ((HF.ky y).2 hin)
            clear HF ha1 ha2 ha3 F hin
            go_wp2_with fail
            refine (A.out).mono ?_
            rintro e w5 ⟨rfl, rfl⟩
            go_wp2
            go_roundw
            case rel => exact ⟨k + 1, ad, es, L, ks, by omega, by go_num, F2, hbr⟩
            case measure => simp [intOf]; omega
          · have hin' : hasG L y = false := by simpa using hin
            have A := hid (te_addI HF.te HF.hz ((k : Int) % 3) y k3 k3' y0 y1 5 hin' (by omega) (by omega))
            have HI := hid hin'
            have G := hid (And.intro y0 y1)
            clear HF ha1 ha2 ha3 hin hin'
            go_wp2_with fail
            refine (A.out).mono ?_
            rintro e w5 ⟨rfl, h5⟩
            obtain ⟨⟨T5, t5⟩, c5, b5, z5, g5⟩ := F.out.1.add (.inl rfl) G.out h5
            have hni : y ∉ ks := fun hm => by have := (F.out.1.ky y).1 hm; rw [HI.out] at this; cases this
            have lk := c5.miss hni
            obtain ⟨w6, s6, c6, o6⟩ := c5.put hni
            have F6 := hid (F.out.1.put (w5 := w5) (g := y) rfl t5 c6 b5 z5 g5 o6 HM.out)
            have F2 : Hid (To w Z t mb (ad + 1) _ (insF (5, (ad : Int), y) L) (ks ++ [y]) w6 ∧ ad + 1 ≤ k + 1 ∧ (insF (5, (ad : Int), y) L).length ≤ k + 1 ∧ five (insF (5, (ad : Int), y) L) = (insF (5, (ad : Int), y) L).length) :=
              hid ⟨F6.out, by have := F.out.2.1; omega, by have := F.out.2.2.1; rw [len_ins]; omega, by rw [five_ins, len_ins, F.out.2.2.2]; rfl⟩
            have B6 := F6.out.bl
            clear h5 t5 c5 b5 z5 g5 hni c6 o6 F F6
            go_wp2
            go_roundw
            case rel => exact ⟨k + 1, ad + 1, _, _, _, by omega, by go_num, F2, B6⟩
            case measure => simp [intOf]; omega
      · obtain rfl : k = len0 := by omega
        obtain ⟨m, hm⟩ : ∃ m, L.length = m := ⟨_, rfl⟩
        have lnk := F.out.1.ln.trans hm
        have TL := te_len F.out.1.te
        rw [hm] at TL
        have HTL := hid TL
        have lk := F.out.1.cm.len 3
        rw [lnk] at lk
        have F2 : Hid (To2 w Z t mb m ad es L ks wr ∧ ad ≤ 40 + 0 ∧ five L + 0 = m) := hid ⟨⟨F.out.1.te, F.out.1.cm, ⟨lnk, hm⟩, F.out.1.gs, F.out.1.bl, F.out.1.hz, F.out.1.zb⟩, by have := F.out.2.1; omega, by have := F.out.2.2.2; omega⟩
        have hm40 : m ≤ 40 := by have := F.out.2.2.1; omega
        clear TL F hm lnk
        go_wp2_with fail
        refine (HTL.out).mono ?_
        rintro e w5 ⟨rfl, rfl⟩
        go_wp2_with fail
        clear lk
        go_loopw [62] (fun i wr => ∃ (j ad : Nat) (es : Nat → List En) (L : List En), j ≤ m ∧ i = .int .i64 j ∧ Hid (To2 w Z t mb m ad es L ks wr ∧ ad ≤ 40 + j ∧ five L + j = m)) (fun i _ => m - (intOf i).toNat)
        case atStart => exact ⟨0, ad, es, L, by omega, rfl, F2⟩
        case round =>
          clear F2 HTL
          obtain ⟨j, ad, es, L, hj, rfl, F⟩ := hrel
          by_cases hlt2 : j < m
          · obtain ⟨x2, x3, l, hL, hx0, hx1⟩ := five_pos (Te.sorted F.out.1.te) F.out.1.gs (by have := F.out.2.2; omega)
            have hnd := F.out.1.te.2.2
            rw [hL] at hnd
            simp only [List.map_cons, List.nodup_cons] at hnd
            have hno : hasG l x3 = false := by simpa [hasG] using hnd.1
            have hll : l.length + 1 = m := by have := F.out.1.ln.2; rw [hL] at this; simpa using this
            have A := hid (te_take (now := 5) (hL ▸ F.out.1.te) F.out.1.hz (by decide))
            have HL := hid hL
            have HN := hid hno
            have HX := hid (And.intro hx0 hx1)
            have HLL := hid hll
            clear hL hnd hno hx0 hx1 hll
            go_wp2_with fail
            refine (A.out).mono ?_
            rintro e w5 ⟨rfl, h5⟩
            have B5 := hid (F.out.1.bl.trans (h5.bl F.out.1.zb.1 F.out.1.bl.size))
            have C5 := hid (F.out.1.cm.kept (h5.1.block _ F.out.1.cm.lt F.out.1.zb.2))
            have Z5 := hid (fun q hq => Nat.lt_of_lt_of_le (F.out.1.hz q hq) h5.1.size)
            obtain ⟨mm, T, hmm, hT, h5⟩ := h5.2
            obtain ⟨Z', hZ'⟩ : ∃ Z' : Nat → Prop, Z' = fun q => Z q ∨ q = w5.heap.size := ⟨_, rfl⟩
            have hr := (Te.reZ h5 (Nat.le_refl w5.heap.size)).below (bl_al w5 (.cells #[.int .i64 5, .int .u64 x2, .int .i64 x3] 32))
            rw [← hZ'] at hr
            have R6 := hid hr
            have N6 := hid (Deep.blk_alloc_new w5 (.cells #[.int .i64 5, .int .u64 x2, .int .i64 x3] 32))
            have ZZ := hid (show (∀ q, Z q → Z' q) ∧ Z' w5.heap.size ∧ ∀ q, Z' q → q < (w5.alloc (.cells #[.int .i64 5, .int .u64 x2, .int .i64 x3] 32)).heap.size by
              rw [hZ']
              refine ⟨fun q hq => .inl hq, .inr rfl, fun q hq => ?_⟩
              simp only [World.size_alloc]
              rcases hq with hq | hq
              · have := Z5.out q hq; omega
              · omega)
            have c2 : (w5.alloc (.cells #[.int .i64 5, .int .u64 x2, .int .i64 x3] 32)).cell? ⟨w5.heap.size, 2, none⟩ = some (.int .i64 x3) := cell_ent N6.out rfl
            have HAS := hid (te_has hr x3 false HN.out)
            have AD := hid (te_addI hr ZZ.out.2.2 0 x3 (by decide) (by decide) HX.out.1 HX.out.2 9 HN.out (by have := HLL.out; omega) (by have := F.out.2.1; omega))
            clear h5 hr hZ' hT hmm A
            go_wp2_with fail
            refine (HAS.out).mono ?_
            rintro e w' ⟨rfl, rfl⟩
            go_wp2_with fail
            refine (AD.out).mono ?_
            rintro e w7 ⟨rfl, h7⟩
            obtain ⟨hf7, T7, hT7, h7⟩ := h7
            have n7 := (hf7.block _ (by simp) ZZ.out.2.1).trans N6.out
            have c7 : w7.cell? ⟨w5.heap.size, 2, none⟩ = some (.int .i64 x3) := cell_ent n7 rfl
            have SA := hid (te_sameI h7 2 x3 (by decide) (by decide) HX.out.1 HX.out.2 1 (by rw [hasG_ins]; simp))
            have F7 : Hid (To2 w Z t mb m (ad + 1) (updN (updN es mm T) (Int.toNat 0) T7) (insF (9, (ad : Int), x3) l) ks w7 ∧ ad + 1 ≤ 40 + (j + 1) ∧ five (insF (9, (ad : Int), x3) l) + (j + 1) = m) := by
              refine hid ⟨⟨h7.weak ZZ.out.1, ?_, ⟨F.out.1.ln.1, by rw [len_ins]; exact HLL.out⟩, fun e he => ?_, ?_, fun q hq => Nat.lt_of_lt_of_le (ZZ.out.2.2 q (ZZ.out.1 q hq)) hf7.size, F.out.1.zb⟩, by have := F.out.2.1; omega, ?_⟩
              · exact (C5.out.kept (Below.heap_alloc _ _ _ C5.out.lt)).kept (hf7.block _ (by simp; have := C5.out.lt; omega) (ZZ.out.1 _ F.out.1.zb.2))
              · rcases mem_ins.1 he with rfl | he
                · exact ⟨.inr rfl, HX.out⟩
                · exact F.out.1.gs e (by rw [HL.out]; exact List.mem_cons_of_mem _ he)
              · exact (B5.out.trans ((bl_al w5 _).mono B5.out.size)).trans (hf7.below (fun q hq => ZZ.out.1 q (F.out.1.zb.1 q hq)) (by simp; have := B5.out.size; omega))
              · have h1 := F.out.2.2
                rw [HL.out] at h1
                rw [five_ins]
                have h2 : five ((5, x2, x3) :: l) = five l + 1 := by simp [five]
                simp; omega
            clear h7 hf7 hT7 n7 c2 HAS AD R6 N6 ZZ B5 C5 Z5
            go_wp2_with fail
            refine (SA.out).mono ?_
            rintro e w' ⟨rfl, rfl⟩
            clear c7 SA
            go_wp2
            go_roundw
            case rel => exact ⟨j + 1, ad + 1, _, _, by omega, by go_num, F7⟩
            case measure => simp [intOf]; omega
          · obtain rfl : j = m := by omega
            have TL := te_len F.out.1.te
            rw [F.out.1.ln.2] at TL
            have HTL := hid TL
            have lk := F.out.1.cm.len 3
            rw [F.out.1.ln.1] at lk
            have DU := hid (te_due F.out.1.te 8 false (five_none F.out.1.gs (by have := F.out.2.2; omega)))
            have BL := hid F.out.1.bl
            clear TL F
            go_wp2_with fail
            refine (HTL.out).mono ?_
            rintro e w5 ⟨rfl, rfl⟩
            go_wp2_with fail
            refine (DU.out).mono ?_
            rintro e w6 ⟨rfl, b6⟩
            clear lk
            go_wp2
            go_ret
            exact ⟨rfl, BL.out.trans (b6.mono BL.out.size)⟩
end Go.Proofs.Ytmmijanmfhohiaa.timerOnce
