/- The walk of the statement TimerWhen: the law answers true and turns nothing that was there. -/
import Derived.Test.YtmmijanmfhohiaaLives10
import Derived.Test.YtmmijanmfhohiaaTimZ
import Derived.Test.YtmmijanmfhohiaaCmT
namespace Go.Proofs.Ytmmijanmfhohiaa.timerWhen
open Go.RowKit Tk
set_option linter.unusedVariables false
set_option linter.unusedSimpArgs false

/-- How many are due. -/
def nd (now : Int) (L : List En) : Nat := (L.filter fun e => decide (e.1 ≤ now)).length
theorem nd_ins (now : Int) (x : En) (L : List En) : nd now (insF x L) = nd now L + if x.1 ≤ now then 1 else 0 := by
  have h := ((insF_perm x L).filter fun e => decide (e.1 ≤ now)).length_eq
  unfold nd
  rw [h, List.filter_cons]
  by_cases hx : x.1 ≤ now <;> simp [hx]
theorem nd_cons (now : Int) (x : En) (L : List En) : nd now (x :: L) = nd now L + if x.1 ≤ now then 1 else 0 := by
  unfold nd
  rw [List.filter_cons]
  by_cases hx : x.1 ≤ now <;> simp [hx]
theorem nd_pos {now : Int} {L : List En} (hs : L.Pairwise leE) (h : 0 < nd now L) : ∃ x l, L = x :: l ∧ x.1 ≤ now := by
  rcases L with _ | ⟨x, l⟩
  · simp [nd] at h
  refine ⟨x, l, rfl, ?_⟩
  unfold nd at h
  obtain ⟨e, he⟩ := List.exists_mem_of_length_pos h
  obtain ⟨hm, h5⟩ := List.mem_filter.1 he
  have h5 : e.1 ≤ now := by simpa using h5
  rcases List.mem_cons.1 hm with rfl | hm
  · exact h5
  · have := leE_when ((List.pairwise_cons.1 hs).1 e hm); omega
theorem nd_none {now : Int} {L : List En} (h : nd now L = 0) : ∀ x l, L = x :: l → now < x.1 := by
  rintro x l rfl
  rw [nd_cons] at h
  by_cases hx : x.1 ≤ now
  · rw [if_pos hx] at h; omega
  · omega
theorem nd_due {now : Int} {L : List En} (h : nd now L = 0) : dueL L now = false := by
  rcases L with _ | ⟨x, l⟩
  · rfl
  · have := nd_none h x l rfl
    simp only [dueL]; exact decide_eq_false (by omega)
/-- An entry of the law's: its goroutine and its order are its place. -/
def Ent (z : List Int) (k : Nat) (e : En) : Prop := ∃ g : Nat, g < k ∧ e = (z.getD g 0, (g : Int), (g : Int))
/-- The first loop. -/
structure W1 (w : World) (Z : Nat → Prop) (t : Nat) (z : List Int) (k : Nat) (es : Nat → List En) (L : List En) (wr : World) : Prop where
  te : Te Z wr t 4 es L k
  en : ∀ e ∈ L, Ent z k e
  ln : L.length = k
  bl : Below w.heap.size w wr
  hz : ∀ q, Z q → q < wr.heap.size
  zb : ∀ q, q < w.heap.size → Z q
theorem W1.no {w : World} {Z : Nat → Prop} {t k : Nat} {z : List Int} {es : Nat → List En} {L : List En} {wr : World} (h : W1 w Z t z k es L wr) : hasG L (k : Int) = false := by
  refine decide_eq_false fun hm => ?_
  obtain ⟨e, he, h2⟩ := List.mem_map.1 hm
  obtain ⟨g, hg, rfl⟩ := h.en e he
  simp only at h2; omega
theorem W1.step {w : World} {Z : Nat → Prop} {t k : Nat} {z : List Int} {es : Nat → List En} {L : List En} {wr w' : World} (h : W1 w Z t z k es L wr) {p : Nat} (ha : TeAdd Z wr t 4 es L k p (z.getD k 0, (k : Int), (k : Int)) w') :
    ∃ es', W1 w Z t z (k + 1) es' (insF (z.getD k 0, (k : Int), (k : Int)) L) w' := by
  obtain ⟨hf, T, _, ht⟩ := ha
  refine ⟨_, ht, fun e he => ?_, by rw [len_ins, h.ln], h.bl.trans (hf.below h.zb h.bl.size), fun q hq => Nat.lt_of_lt_of_le (h.hz q hq) hf.size, h.zb⟩
  rcases mem_ins.1 he with rfl | he
  · exact ⟨k, by omega, rfl⟩
  · obtain ⟨g, hg, e2⟩ := h.en e he
    exact ⟨g, by omega, e2⟩
/-- The second loop. -/
structure W2 (w : World) (Z : Nat → Prop) (t mb lb : Nat) (z : List Int) (n : Nat) (es : Nat → List En) (L : List En) (ks : List Int) (y : En) (wr : World) : Prop where
  te : Te Z wr t 4 es L n
  en : ∀ e ∈ L, Ent z n e
  cm : Cm wr mb ks
  ln : L.length + ks.length = n
  no : ∀ e ∈ L, e.2.2 ∉ ks
  hlb : wr.heap[lb]? = some (.cells #[.int .i64 y.1, .int .u64 y.2.1, .int .i64 y.2.2] 32 (0, 0))
  ls : 0 < ks.length → y.2.1 = y.2.2 ∧ ∀ e ∈ L, leE y e
  bl : Below w.heap.size w wr
  hz : ∀ q, Z q → q < wr.heap.size
  zb : (∀ q, q < w.heap.size → Z q) ∧ Z mb ∧ Z lb
  ge : w.heap.size ≤ mb ∧ w.heap.size ≤ lb ∧ mb ≠ lb
theorem leE_law {a1 a2 b1 b2 : Int} (h : leE (a1, a2, a2) (b1, b2, b2)) : ¬ b1 < a1 ∧ (b1 = a1 → ¬ b2 < a2) := by
  have h1 : aheadE (b1, b2, b2) (a1, a2, a2) = false := h
  rw [heapAhead.ahead_eq] at h1
  by_cases he : b1 = a1
  · rw [if_neg (by simpa using he)] at h1
    by_cases h2 : b2 = a2
    · omega
    · rw [if_pos h2] at h1
      have := of_decide_eq_false h1
      omega
  · rw [if_pos he] at h1
    have := of_decide_eq_false h1
    omega
/-- Behind a take, ahead of what is noted of it. -/
structure W3 (w : World) (Z : Nat → Prop) (t mb lb eb : Nat) (n : Nat) (es : Nat → List En) (L : List En) (ks : List Int) (y x : En) (wr : World) : Prop where
  te : Te Z wr t 4 es L n
  cm : Cm wr mb ks
  hlb : wr.heap[lb]? = some (.cells #[.int .i64 y.1, .int .u64 y.2.1, .int .i64 y.2.2] 32 (0, 0))
  heb : wr.heap[eb]? = some (.cells #[.int .i64 x.1, .int .u64 x.2.1, .int .i64 x.2.2] 32 (0, 0))
  bl : Below w.heap.size w wr
  hz : ∀ q, Z q → q < wr.heap.size
  ne : eb ≠ mb ∧ eb ≠ lb
theorem W2.take {w : World} {Z : Nat → Prop} {t mb lb n : Nat} {z : List Int} {es : Nat → List En} {l : List En} {ks : List Int} {y x : En} {wr w5 : World} (h : W2 w Z t mb lb z n es (x :: l) ks y wr) (ht : TeTake Z wr t 4 es l n x w5) :
    ∃ es', W3 w Z t mb lb w5.heap.size n es' l ks y x (w5.alloc (.cells #[.int .i64 x.1, .int .u64 x.2.1, .int .i64 x.2.2] 32)) := by
  obtain ⟨hf, m, T, hm, hT, h5⟩ := ht
  have lm := h.cm.lt
  have ll := (Array.getElem?_eq_some_iff.1 h.hlb).1
  have s5 := hf.size
  refine ⟨_, h5.below (bl_al w5 _), (h.cm.kept (hf.block _ lm h.zb.2.1)).kept (Below.heap_alloc _ _ _ (by omega)), (Below.heap_alloc _ _ _ (by omega)).trans ((hf.block _ ll h.zb.2.2).trans h.hlb), Deep.blk_alloc_new _ _, (h.bl.trans (hf.below h.zb.1 h.bl.size)).trans ((bl_al w5 _).mono (by have := h.bl.size; omega)), fun q hq => ?_, by omega, by omega⟩
  have := h.hz q hq
  simp only [World.size_alloc]; omega
theorem W3.below {w : World} {Z : Nat → Prop} {t mb lb eb n : Nat} {es : Nat → List En} {l : List En} {ks : List Int} {y x : En} {wr w5 : World} (h : W3 w Z t mb lb eb n es l ks y x wr) (hb : Below wr.heap.size wr w5) : W3 w Z t mb lb eb n es l ks y x w5 :=
  ⟨h.te.below hb, h.cm.kept (hb.block _ h.cm.lt), (hb.block _ (Array.getElem?_eq_some_iff.1 h.hlb).1).trans h.hlb, (hb.block _ (Array.getElem?_eq_some_iff.1 h.heb).1).trans h.heb, h.bl.trans (hb.mono h.bl.size), fun q hq => Nat.lt_of_lt_of_le (h.hz q hq) hb.size, h.ne⟩
theorem W3.put {w : World} {Z : Nat → Prop} {t mb lb eb n : Nat} {es : Nat → List En} {l : List En} {ks : List Int} {y x : En} {wr w5 : World} (h : W3 w Z t mb lb eb n es l ks y x wr) (o : Only mb mb wr w5) (c : Cm w5 mb (ks ++ [x.2.2])) (hz : Z mb) (hm : w.heap.size ≤ mb) (hl : mb ≠ lb) : W3 w Z t mb lb eb n es l (ks ++ [x.2.2]) y x w5 :=
  ⟨h.te.only o hz, c, only_blk o h.hlb hl.symm, only_blk o h.heb h.ne.1, h.bl.trans (o.below hm hm h.bl.size), fun q hq => Nat.lt_of_lt_of_le (h.hz q hq) o.size, h.ne⟩
theorem W3.note {w : World} {Z : Nat → Prop} {t mb lb eb n : Nat} {z : List Int} {es es' : Nat → List En} {l : List En} {ks : List Int} {y x : En} {wr w5 w0 : World} (h0 : W2 w Z t mb lb z n es (x :: l) ks y w0) (h : W3 w Z t mb lb eb n es' l (ks ++ [x.2.2]) y x wr) (hx : x.2.1 = x.2.2) (hs : (x :: l).Pairwise leE) (hn : ((x :: l).map fun e => e.2.2).Nodup)
    (o : Only lb lb wr w5) (hl : w5.heap[lb]? = some (.cells #[.int .i64 x.1, .int .u64 x.2.1, .int .i64 x.2.2] 32 (0, 0))) : W2 w Z t mb lb z n es' l (ks ++ [x.2.2]) x w5 := by
  have lt := h0.ln
  simp only [List.length_cons] at lt
  refine ⟨h.te.only o h0.zb.2.2, fun e he => h0.en e (List.mem_cons_of_mem _ he), h.cm.kept (o.block _ h.cm.lt h0.ge.2.2 h0.ge.2.2), by rw [List.length_append, List.length_singleton]; omega, fun e he => ?_, hl, fun _ => ⟨hx, fun e he => (List.pairwise_cons.1 hs).1 e he⟩, h.bl.trans (o.below h0.ge.2.1 h0.ge.2.1 h.bl.size), fun q hq => Nat.lt_of_lt_of_le (h.hz q hq) o.size, h0.zb, h0.ge⟩
  rw [List.mem_append, List.mem_singleton, not_or]
  refine ⟨h0.no e (List.mem_cons_of_mem _ he), fun e2 => ?_⟩
  simp only [List.map_cons, List.nodup_cons] at hn
  exact hn.1 (List.mem_map.2 ⟨e, he, e2⟩)
theorem bl_dN (w : World) (n : Nat) : Below w.heap.size w (w.drewN n) := below_drewN (Below.refl _ _) n
set_option maxRecDepth 100000 in
set_option maxHeartbeats 16000000 in
theorem walk (a0 : Option Addr) (len0 cap0 : Nat) (z0 : List Int) (a1 : Int) (w : World) (w0 : IsRow .i64 w a0 len0 cap0 z0) (w1 : (Lit.int .i64 a1).wf = true) :
    Calls Try.prog 5 #[.slice a0 len0 cap0, .int .i64 a1] w fun e w' => e = .returned (.bool true) ∧ Below w.heap.size w w' := by
  clear w1
  by_cases hlen : (60 : Int) < len0
  · go_enter Try.func5, Try.ntmps5
    go_wp2_with fail
    refine (lives10 _).mono ?_
    rintro e w2 ⟨rfl, hb1⟩
    go_wp2_with fail
    refine (lives10 _).mono ?_
    rintro e w3 ⟨rfl, hb2⟩
    go_wp2
    go_ret
    exact ⟨rfl, hb1.trans (hb2.mono hb1.size)⟩
  · have hlen' : len0 ≤ 60 := by omega
    have W0 := hid w0
    clear w0
    go_enter Try.func5, Try.ntmps5
    go_wp2_with fail
    refine (lives10 _).mono ?_
    rintro e w2 ⟨rfl, hb1⟩
    have hs1 := hb1.size
    go_wp2_with fail
    refine (te_new 4 (by decide) (by decide) w2).mono ?_
    rintro e w3 ⟨rfl, h3, b3⟩
    obtain ⟨Z, hZ⟩ : ∃ Z : Nat → Prop, Z = fun q => q < w2.heap.size := ⟨_, rfl⟩
    obtain ⟨t, ht⟩ : ∃ t, t = w2.heap.size + 1 := ⟨_, rfl⟩
    have s3 := b3.size
    have S0 : Hid (W1 w Z t z0 0 (fun _ => []) [] w3) := by
      rw [← hZ, ← ht] at h3
      refine ⟨h3, fun e he => (by cases he), rfl, hb1.trans (b3.mono hs1), fun q hq => ?_, fun q hq => ?_⟩
      · rw [hZ] at hq; have hq : q < w2.heap.size := hq; omega
      · rw [hZ]; show q < w2.heap.size; omega
    rw [← ht]
    clear hZ ht h3 b3 hb1 s3
    go_wp2_with fail
    go_loopw [6, 27] (fun du i wr => ∃ (k : Nat) (es : Nat → List En) (L : List En) (d : Nat), k ≤ len0 ∧ i = .int .i64 k ∧ du = .int .i64 d ∧ d ≤ k ∧ Hid (d = nd a1 L) ∧ Hid (W1 w Z t z0 k es L wr) ∧ Below w.heap.size w wr) (fun _ i _ => len0 - (intOf i).toNat)
    case atStart => exact ⟨0, _, [], 0, by omega, rfl, rfl, by omega, hid rfl, S0, S0.out.bl⟩
    case round =>
      clear S0
      obtain ⟨k, es, L, d, hk, rfl, rfl, hd, HD, F, hbr⟩ := hrel
      by_cases hlt : k < len0
      · obtain ⟨bx, off, rfl, hzl, hwf, hcell⟩ := W0.out.open.resolve_left (by omega)
        have hy := hcell _ hbr k hlt
        obtain ⟨y, hye⟩ : ∃ y, y = z0.getD k 0 := ⟨_, rfl⟩
        rw [← hye] at hy
        have HY := hid hye
        clear hcell hwf hzl hye
        have k3 : 0 ≤ (k : Int) % 4 := by omega
        have k3' : (k : Int) % 4 < 4 := by omega
        have A := hid (te_addI F.out.te F.out.hz ((k : Int) % 4) k k3 k3' (by omega) (by omega) y F.out.no (by rw [F.out.ln]; omega) (by omega))
        go_wp2_with fail
        refine (A.out).mono ?_
        rintro e w5 ⟨rfl, h5⟩
        rw [HY.out] at h5
        obtain ⟨es5, F5⟩ := F.out.step h5
        rw [← HY.out] at F5
        by_cases hdu : y ≤ a1
        · have HD5 := hid (show d + 1 = nd a1 (insF (y, (k : Int), (k : Int)) L) by rw [nd_ins, if_pos hdu, HD.out])
          have F6 := hid F5
          have B6 := F5.bl
          clear h5 F5 A F HD
          go_wp2
          go_roundw
          case rel => exact ⟨k + 1, es5, _, d + 1, by omega, by go_num, by go_num, by omega, HD5, F6, B6⟩
          case measure => simp [intOf]; omega
        · have HD5 := hid (show d = nd a1 (insF (y, (k : Int), (k : Int)) L) by rw [nd_ins, if_neg hdu, HD.out]; rfl)
          have F6 := hid F5
          have B6 := F5.bl
          have d1 : decide (y ≤ a1) = false := decide_eq_false hdu
          clear h5 F5 A F HD
          go_wp2
          go_roundw
          case rel => exact ⟨k + 1, es5, _, d, by omega, by go_num, rfl, by omega, HD5, F6, B6⟩
          case measure => simp [intOf]; omega
      · obtain rfl : k = len0 := by omega
        obtain ⟨mb, hmb⟩ : ∃ x, x = wr.heap.size := ⟨_, rfl⟩
        obtain ⟨lb, hlb⟩ : ∃ x, x = wr.heap.size + 1 := ⟨_, rfl⟩
        obtain ⟨Z2, hZ2⟩ : ∃ Z' : Nat → Prop, Z' = fun q => (Z q ∨ q = wr.heap.size) ∨ q = wr.heap.size + 1 := ⟨_, rfl⟩
        have S2 : Hid (∀ w9, w9 = (wr.alloc (.map #[] 0)).alloc (.cells #[.int .i64 0, .int .u64 0, .int .i64 0] 32) → ∀ w8, Only lb lb w9 w8 → w8.heap[lb]? = some (.cells #[.int .i64 0, .int .u64 0, .int .i64 0] 32 (0, 0)) → W2 w Z2 t mb lb z0 k es L [] (0, 0, 0) w8) := by
          refine hid ?_
          rintro w9 rfl w8 o8 n8
          have r1 := (F.out.te.reZ (Nat.le_refl wr.heap.size)).below (bl_al wr (.map #[] 0))
          have r2 := (r1.reZ (b := wr.heap.size + 1) (by simp)).below (bl_al _ (.cells #[.int .i64 0, .int .u64 0, .int .i64 0] 32))
          rw [← hZ2] at r2
          have c1 := (Cm.new wr).kept (Below.heap_alloc (wr.alloc (.map #[] 0)) (.cells #[.int .i64 0, .int .u64 0, .int .i64 0] 32) wr.heap.size (by simp))
          have sz := o8.size
          simp only [World.size_alloc] at sz
          have sw := F.out.bl.size
          have bl9 : Below w.heap.size w ((wr.alloc (.map #[] 0)).alloc (.cells #[.int .i64 0, .int .u64 0, .int .i64 0] 32)) := (F.out.bl.trans ((bl_al wr _).mono sw)).trans ((bl_al _ _).mono (by simp; omega))
          refine ⟨r2.only o8 (by rw [hZ2]; exact .inr hlb), F.out.en, ?_, by rw [F.out.ln]; rfl, fun e _ => by simp, n8, fun h => (by simp at h), bl9.trans (o8.below (by omega) (by omega) bl9.size), fun q hq => ?_, ⟨fun q hq => ?_, by rw [hZ2]; exact .inl (.inr hmb), by rw [hZ2]; exact .inr hlb⟩, by omega⟩
          · rw [hmb]
            exact c1.kept (o8.block _ (by simp; omega) (by omega) (by omega))
          · rw [hZ2] at hq
            rcases hq with (hq | hq) | hq
            · have := F.out.hz q hq; omega
            · omega
            · omega
          · rw [hZ2]; exact .inl (.inl (F.out.zb q hq))
        clear F hbr
        have S3 : Hid (W2 w Z2 t mb lb z0 k es L [] (0, 0, 0) ((wr.alloc (.map #[] 0)).alloc (.cells #[.int .i64 0, .int .u64 0, .int .i64 0] 32))) := by
          refine hid (S2.out _ rfl _ ⟨rfl, rfl, rfl, Nat.le_refl _, fun _ _ _ _ => rfl⟩ ?_)
          have := Deep.blk_alloc_new (wr.alloc (.map #[] 0)) (.cells #[.int .i64 0, .int .u64 0, .int .i64 0] 32)
          rw [World.size_alloc, ← hlb] at this
          exact this
        clear S2 hZ2
        have mk := mkM wr
        go_wp2_with fail
        rw [← hlb, ← hmb]
        clear hlb hmb mk
        have SZ := hid S3.out.bl
        go_loopw [48] (fun i w9 => ∃ (j : Nat) (es : Nat → List En) (L : List En) (ks : List Int) (y : En), j ≤ d ∧ i = .int .i64 j ∧ Hid (W2 w Z2 t mb lb z0 k es L ks y w9 ∧ nd a1 L + j = d ∧ ks.length = j) ∧ Below w.heap.size w w9) (fun i _ => d - (intOf i).toNat)
        case atStart => exact ⟨0, es, L, [], (0, 0, 0), by omega, rfl, hid ⟨S3.out, by rw [HD.out]; rfl, rfl⟩, SZ.out⟩
        case round =>
          clear S3 SZ HD
          obtain ⟨j, es, L, ks, ⟨y1, y2, y3⟩, hj, rfl, F, hbr⟩ := hrel
          by_cases hlt2 : j < d
          · obtain ⟨x, l, hL, hx1⟩ := nd_pos (now := a1) F.out.1.te.sorted (by have := F.out.2.1; omega)
            obtain ⟨g, hg, hxe⟩ := F.out.1.en x (by rw [hL]; exact List.mem_cons_self)
            obtain ⟨bx, off, rfl, hzl, hwf, hcell⟩ := W0.out.open.resolve_left (by omega)
            obtain ⟨x1, hx⟩ : ∃ x, x = z0.getD g 0 := ⟨_, rfl⟩
            rw [← hx] at hxe
            subst hxe
            have HL := hid hL
            have HX := hid hx1
            have A := hid (te_take (now := a1) (hL ▸ F.out.1.te) F.out.1.hz hx1)
            have CE := hid (fun w' hb => (hcell w' hb g hg).trans (by rw [← hx]))
            have HG := hid hg
            clear hL hx1 hcell hwf hzl hx
            go_wp2_with fail
            refine (A.out).mono ?_
            rintro e w5 ⟨rfl, h5⟩
            obtain ⟨es5, f5⟩ := (HL.out ▸ F.out.1).take h5
            have F5 := hid f5
            clear h5 f5 A
            have c0 := CE.out _ (F5.out.bl)
            have e0 : (w5.alloc (.cells #[.int .i64 x1, .int .u64 g, .int .i64 g] 32)).cell? ⟨w5.heap.size, 0, none⟩ = some (.int .i64 x1) := cell_ent F5.out.heb rfl
            have e2 : (w5.alloc (.cells #[.int .i64 x1, .int .u64 g, .int .i64 g] 32)).cell? ⟨w5.heap.size, 2, none⟩ = some (.int .i64 g) := cell_ent F5.out.heb rfl
            have l0 : (w5.alloc (.cells #[.int .i64 x1, .int .u64 g, .int .i64 g] 32)).cell? ⟨lb, 0, none⟩ = some (.int .i64 y1) := cell_ent F5.out.hlb rfl
            have l2 : (w5.alloc (.cells #[.int .i64 x1, .int .u64 g, .int .i64 g] 32)).cell? ⟨lb, 2, none⟩ = some (.int .i64 y3) := cell_ent F5.out.hlb rfl
            have g0 : (0 : Int) ≤ g := by omega
            have g1 : (g : Int) < k := by omega
            have d1 : decide (a1 < x1) = false := decide_eq_false (by have h : x1 ≤ a1 := HX.out; omega)
            have d2 : decide ((g : Int) < 0) = false := decide_eq_false (by omega)
            have d3 : decide (k ≤ g) = false := decide_eq_false (by omega)
            have KEY : (decide (0 < j) = false) ∨ (decide (0 < j) = true ∧ decide (x1 < y1) = false ∧ (x1 == y1) = false) ∨ (decide (0 < j) = true ∧ decide (x1 < y1) = false ∧ (x1 == y1) = true ∧ decide ((g : Int) < y3) = false) := by
              rcases Nat.eq_zero_or_pos j with h0 | h0
              · exact .inl (decide_eq_false (by omega))
              · obtain ⟨q1, q2⟩ := F.out.1.ls (by rw [F.out.2.2]; exact h0)
                have q3 := q2 _ (by rw [HL.out]; exact List.mem_cons_self)
                simp only at q1
                rw [q1] at q3
                obtain ⟨r1, r2⟩ := leE_law q3
                by_cases he : x1 = y1
                · exact .inr (.inr ⟨decide_eq_true (by omega), decide_eq_false r1, by simpa using he, decide_eq_false (r2 he)⟩)
                · exact .inr (.inl ⟨decide_eq_true (by omega), decide_eq_false r1, by simpa using he⟩)
            clear hbr
            have hni : (g : Int) ∉ ks := F.out.1.no ((x1, (g : Int), (g : Int)) : En) (by rw [HL.out]; exact List.mem_cons_self)
            have HNI := hid hni
            have KEY2 := hid KEY
            clear KEY hni
            rcases KEY2.out with h0 | ⟨h0, h1, h2⟩ | ⟨h0, h1, h2, h3⟩
            all_goals
              go_wp2_with fail
              go_quiet (fail)
              rename_i nq
              have F7 := hid (F5.out.below (bl_dN _ nq))
              generalize World.drewN (w5.alloc _) nq = w7 at *
              clear e0 e2 l0 l2 d1 d2 d3 h0 c0
              have e2 : w7.cell? ⟨w5.heap.size, 2, none⟩ = some (.int .i64 g) := cell_ent F7.out.heb rfl
              have lk := F7.out.cm.miss HNI.out
              obtain ⟨w8, s8, c8, o8⟩ := F7.out.cm.put HNI.out
              have F8 := hid (F7.out.put o8 c8 F.out.1.zb.2.1 F.out.1.ge.1 F.out.1.ge.2.2)
              have a0 : w8.cell? ⟨w5.heap.size, 0, none⟩ = some (.int .i64 x1) := cell_ent F8.out.heb rfl
              have a1' : w8.cell? ⟨w5.heap.size, 1, none⟩ = some (.int .u64 g) := cell_ent F8.out.heb rfl
              have a2 : w8.cell? ⟨w5.heap.size, 2, none⟩ = some (.int .i64 g) := cell_ent F8.out.heb rfl
              have b0 : w8.cell? ⟨lb, 0, none⟩ = some (.int .i64 y1) := cell_ent F8.out.hlb rfl
              have b1 : w8.cell? ⟨lb, 1, none⟩ = some (.int .u64 y2) := cell_ent F8.out.hlb rfl
              have b2 : w8.cell? ⟨lb, 2, none⟩ = some (.int .i64 y3) := cell_ent F8.out.hlb rfl
              have n8 := F8.out.hlb
              have f0 : w8.frozen? ⟨lb, 0, none⟩ = false := by simp [World.frozen?, n8]
              have f1 : w8.frozen? ⟨lb, 1, none⟩ = false := by simp [World.frozen?, n8]
              have f2 : w8.frozen? ⟨lb, 2, none⟩ = false := by simp [World.frozen?, n8]
              have F9 : Hid (W2 w Z2 t mb lb z0 k es5 l (ks ++ [(g : Int)]) (x1, (g : Int), (g : Int)) (((w8.setCell ⟨lb, 0, none⟩ (.int .i64 x1)).setCell ⟨lb, 1, none⟩ (.int .u64 g)).setCell ⟨lb, 2, none⟩ (.int .i64 g)) ∧ nd a1 l + (j + 1) = d ∧ (ks ++ [(g : Int)]).length = j + 1) := by
                have st := set3 n8 (.int .i64 x1) (.int .u64 g) (.int .i64 g)
                have ts := F.out.1.te
                rw [HL.out] at ts
                refine hid ⟨F8.out.note (HL.out ▸ F.out.1) rfl ts.sorted ts.2.2 st.out.1 st.out.2, ?_, by simp [F.out.2.2]⟩
                have q := F.out.2.1
                rw [HL.out, nd_cons, if_pos HX.out] at q
                omega
              have B9 := F9.out.1.bl
              clear n8 c8 o8 F8 F7 F5
              go_wp2
              go_roundw
              case rel => exact ⟨j + 1, es5, l, ks ++ [(g : Int)], (x1, (g : Int), (g : Int)), by omega, by go_num, F9, B9⟩
              case measure => simp [intOf]; omega
          · obtain rfl : j = d := by omega
            have nz : nd a1 L = 0 := by have := F.out.2.1; omega
            have A := hid (te_none F.out.1.te a1 (nd_none nz))
            have HNZ := hid nz
            clear nz
            go_wp2_with fail
            refine (A.out).mono ?_
            rintro e w5 ⟨rfl, h5⟩
            have BB := h5.trans ((bl_al w5 (.cells #[.int .i64 0, .int .u64 0, .int .i64 0] 32)).mono h5.size)
            have T6 := F.out.1.te.below BB
            have TL := te_len T6
            have ll : (L.length : Int) = k - j := by have := F.out.1.ln; have := F.out.2.2; omega
            rw [ll] at TL
            have HTL := hid TL
            have lk := (F.out.1.cm.kept (BB.block _ F.out.1.cm.lt)).len 3
            rw [F.out.2.2] at lk
            have DU := hid (te_due T6 a1 false (nd_due HNZ.out))
            have BL := hid (F.out.1.bl.trans (BB.mono F.out.1.bl.size))
            clear TL F h5 BB T6 ll A hbr
            go_wp2_with fail
            refine (HTL.out).mono ?_
            rintro e w' ⟨rfl, rfl⟩
            go_wp2_with fail
            refine (DU.out).mono ?_
            rintro e w6 ⟨rfl, b6⟩
            have BL6 := hid (BL.out.trans (b6.mono BL.out.size))
            clear lk b6 BL DU HTL
            go_wp2
            go_ret
            exact ⟨rfl, BL6.out⟩
end Go.Proofs.Ytmmijanmfhohiaa.timerWhen
