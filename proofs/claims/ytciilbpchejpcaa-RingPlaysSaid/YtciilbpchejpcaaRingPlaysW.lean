/- The walk of the statement RingPlays: the law answers true and turns nothing that was there. -/
import Derived.Test.YtciilbpchejpcaaDo6h
import Derived.Test.YtciilbpchejpcaaLives06
import Derived.Test.YtciilbpchejpcaaStructs
namespace Go.Proofs.Ytciilbpchejpcaa.ringPlays
open Go.RowKit
set_option linter.unusedVariables false
set_option linter.unusedSimpArgs false

/-- The box in which the law keeps the ring as a value. -/
def Bx (W : World) (b : Nat) (rv : Value) (hs : Bool) (nx st : Int) : Prop := W.heap[b]? = some (.cells #[rv, .bool hs, .int .i64 nx, .int .i64 st] 54 (0, 0))
theorem Bx.all {W : World} {b : Nat} {rv : Value} {hs : Bool} {nx st : Int} (h : Bx W b rv hs nx st) :
    W.cell? ⟨b, 0, none⟩ = some rv ∧ W.cell? ⟨b, 1, none⟩ = some (.bool hs) ∧ W.cell? ⟨b, 2, none⟩ = some (.int .i64 nx) ∧ W.cell? ⟨b, 3, none⟩ = some (.int .i64 st) ∧
    W.frozen? ⟨b, 0, none⟩ = false ∧ W.frozen? ⟨b, 1, none⟩ = false ∧ W.frozen? ⟨b, 2, none⟩ = false ∧ W.frozen? ⟨b, 3, none⟩ = false :=
  ⟨cell_at (i := 0) h rfl, cell_at (i := 1) h rfl, cell_at (i := 2) h rfl, cell_at (i := 3) h rfl, free_at h, free_at h, free_at h, free_at h⟩
theorem Bx.sx {W : World} {b : Nat} {rv : Value} {hs : Bool} {nx st : Int} (h : Bx W b rv hs nx st) :
    W.cell? ⟨b, 1, none⟩ = some (.bool hs) ∧ W.cell? ⟨b, 2, none⟩ = some (.int .i64 nx) ∧ W.cell? ⟨b, 3, none⟩ = some (.int .i64 st) := ⟨h.all.2.1, h.all.2.2.1, h.all.2.2.2.1⟩
theorem Bx.kept {W W' : World} {b : Nat} {rv : Value} {hs : Bool} {nx st : Int} (h : Bx W b rv hs nx st) (hk : W'.heap[b]? = W.heap[b]?) : Bx W' b rv hs nx st := hk.trans h
theorem Bx.lt {W : World} {b : Nat} {rv : Value} {hs : Bool} {nx st : Int} (h : Bx W b rv hs nx st) : b < W.heap.size := lt_of_blk h
theorem Bx.below {W W' : World} {b : Nat} {rv : Value} {hs : Bool} {nx st : Int} (h : Bx W b rv hs nx st) (hb : Below W.heap.size W W') : Bx W' b rv hs nx st := h.kept (hb.block _ h.lt)
theorem Bx.only {W W' : World} {b p : Nat} {rv : Value} {hs : Bool} {nx st : Int} (h : Bx W b rv hs nx st) (ho : OnlyO p none W W') (hp : b ≠ p) : Bx W' b rv hs nx st := h.kept (ho.block _ h.lt hp (by simp))
theorem Bx.set {W : World} {b : Nat} {rv : Value} {hs : Bool} {nx st : Int} (h : Bx W b rv hs nx st) (rv' : Value) (hs' : Bool) (nx' st' : Int) : Bx ((((W.setCell ⟨b, 0, none⟩ rv').setCell ⟨b, 1, none⟩ (.bool hs')).setCell ⟨b, 2, none⟩ (.int .i64 nx')).setCell ⟨b, 3, none⟩ (.int .i64 st')) b rv' hs' nx' st' := by
  have h1 := blk_set (i := 0) rv' h (cs' := #[rv', .bool hs, .int .i64 nx, .int .i64 st]) rfl
  have h2 := blk_set (i := 1) (.bool hs') h1 (cs' := #[rv', .bool hs', .int .i64 nx, .int .i64 st]) rfl
  have h3 := blk_set (i := 2) (.int .i64 nx') h2 (cs' := #[rv', .bool hs', .int .i64 nx', .int .i64 st]) rfl
  exact blk_set (i := 3) (.int .i64 st') h3 (cs' := #[rv', .bool hs', .int .i64 nx', .int .i64 st']) rfl

theorem reflist_any (rv : Value) (xs : List Int) (hs : Bool) (nx st : Int) (p : Nat) (w : World) (h : Stay w p none rv xs) (hl : xs.length ≤ 256) (hp : p < w.heap.size) :
    Calls Try.prog 43 #[.agg #[rv, .bool hs, .int .i64 nx, .int .i64 st]] w (fun e w' => ∃ v, e = .returned v ∧ Stay w' p none v (allL xs nx hs) ∧ Below w.heap.size w w') := by
  cases hs
  · exact (reflist_none rv nx st w).mono fun _ _ ⟨he, hb⟩ => ⟨rv, he, by simpa [allL] using h.below hb, hb⟩
  · exact (reflist_one rv xs nx st w h.rd hl).mono fun _ _ ⟨v, he, ho, hb⟩ => ⟨v, he, by simpa [allL] using ho.stays hp, hb⟩
theorem allL_len (xs : List Int) (nx : Int) (hs : Bool) : ((allL xs nx hs).length : Int) = xs.length + if hs then 1 else 0 := by
  cases hs <;> simp [allL]
theorem OnlyO.drewF {p : Nat} {w w' : World} (h : OnlyO p none w.drew w') : OnlyO p none w w' := ⟨h.os, h.tape, h.output, h.size, h.block⟩

set_option maxRecDepth 100000 in
set_option maxHeartbeats 8000000 in
theorem walk (a0 : Option Addr) (len0 cap0 : Nat) (z0 : Nat → Nat → Int) (w : World) (w0 : IsStructs [.u8, .i64, .u16] w a0 len0 cap0 z0) :
    Calls Try.prog 8 #[.slice a0 len0 cap0] w fun e w' => e = .returned (.bool true) ∧ Below w.heap.size w w' := by
  by_cases hlen : (60 : Int) < len0
  · go_enter Try.func8, Try.ntmps8
    go_wp2_with fail
    refine (lives6 _).mono ?_
    rintro e w2 ⟨rfl, hb1⟩
    go_wp2_with fail
    refine (lives6 _).mono ?_
    rintro e w3 ⟨rfl, hb2⟩
    go_wp2
    go_ret
    exact ⟨rfl, hb1.trans (hb2.mono hb1.size)⟩
  · have hlen' : len0 ≤ 60 := by omega
    have W0 := hid w0
    clear w0 hlen
    go_enter Try.func8, Try.ntmps8
    go_wp2_with fail
    refine (lives6 _).mono ?_
    rintro e w1 ⟨rfl, hb1⟩
    have hs1 := hb1.size
    go_wp2_with fail
    refine (new_r _).mono ?_
    rintro e w2 ⟨p, rfl, hr2, hp, hb2⟩
    have hp' : w.heap.size ≤ p := by omega
    have hs2 := hb2.size
    have B2 : Below w.heap.size w w2 := hb1.trans (hb2.mono hs1)
    have hn2 := (Below.refl w2.heap.size w2).alloc (Nat.le_refl _) (.cells #[.slice none 0 0, .bool false, .int .i64 0, .int .i64 0] 54)
    have HB3 := hid (B2.trans (hn2.mono (by omega)))
    have HX3 := hid (show Bx (w2.alloc (.cells #[.slice none 0 0, .bool false, .int .i64 0, .int .i64 0] 54)) w2.heap.size (.slice none 0 0) false 0 0 from Deep.blk_alloc_new _ _)
    have HR3 := hid (hr2.below hn2)
    have HS3 := hid (stay_nil (w2.alloc (.cells #[.slice none 0 0, .bool false, .int .i64 0, .int .i64 0] 54)) p)
    have HA3 := hid (show ∀ g o n c, (Value.slice none 0 0) = .slice (some ⟨g, o, none⟩) n c → 0 < ([] : List Int).length → g ≠ w2.heap.size from fun _ _ _ _ _ h => by simp at h)
    have hpb : p < w2.heap.size := hr2.lt
    clear hr2 hb2 hb1 B2 hn2
    go_wp2_with fail
    obtain ⟨b, hb⟩ : ∃ b, b = w2.heap.size := ⟨_, rfl⟩
    rw [← hb] at HX3 HA3 hpb ⊢
    have hwb : w.heap.size ≤ b := by omega
    clear hb
    generalize w2.alloc (.cells #[.slice none 0 0, .bool false, .int .i64 0, .int .i64 0] 54) = w3 at *
    go_loopw [22] (fun i wr => ∃ (k : Nat) (xs : List Int) (hs : Bool) (nx st : Int) (rv : Value), k ≤ len0 ∧ i = .int .i64 k ∧ Hid (Rg wr p xs nx hs st) ∧ Hid (Stay wr p none rv xs) ∧ Hid (∀ g o n c, rv = .slice (some ⟨g, o, none⟩) n c → 0 < xs.length → g ≠ b) ∧ Hid (Bx wr b rv hs nx st) ∧ Hid (0 ≤ st ∧ st ≤ 4 ∧ (hs = false → nx = 0)) ∧ Hid (Below w.heap.size w wr))
      (fun i _ => len0 - (intOf i).toNat)
    case atStart => exact ⟨0, [], false, 0, 0, _, by omega, rfl, HR3, HS3, HA3, HX3, ⟨by omega, by omega, fun _ => rfl⟩, HB3⟩
    case round =>
      clear HR3 HS3 HA3 HX3 HB3 hs2 hs1 hp
      obtain ⟨k, xs, hs, nx, st, rv, hk, rfl, HR, HS, HA, HX, HST, HB⟩ := hrel
      by_cases hlt : k < len0
      · obtain ⟨bx, off, rfl, hcell⟩ := W0.out.open (by omega) (by simp)
        obtain ⟨hq0, hw0⟩ := hcell _ HB.out k hlt 0 .u8 rfl
        obtain ⟨hq1, hw1⟩ := hcell _ HB.out k hlt 1 .i64 rfl
        obtain ⟨hq2, hw2⟩ := hcell _ HB.out k hlt 2 .u16 rfl
        obtain ⟨K, hK⟩ : ∃ x, x = z0 k 0 := ⟨_, rfl⟩
        obtain ⟨G, hG⟩ : ∃ x, x = z0 k 1 := ⟨_, rfl⟩
        obtain ⟨M, hM⟩ : ∃ x, x = z0 k 2 := ⟨_, rfl⟩
        rw [← hK] at hq0 hw0
        rw [← hG] at hq1
        rw [← hM] at hq2 hw2
        have hK8 := bounds_u8 hw0
        have hM8 := bounds_u16 hw2
        have HKM := hid (show (0 ≤ K ∧ K ≤ 255) ∧ 0 ≤ M ∧ M ≤ 65535 from ⟨hK8, hM8⟩)
        simp only [List.length_cons, List.length_nil, Nat.reduceAdd, Nat.add_zero] at hq0 hq1 hq2
        rw [← Nat.add_assoc] at hq1 hq2
        obtain ⟨rva, rvn, rvc, rfl⟩ : ∃ a n c, rv = .slice a n c := by obtain ⟨a, c, h, _⟩ := HS.out.rd; exact ⟨a, _, c, h⟩
        have hba := (Below.refl wr.heap.size wr).alloc (Nat.le_refl _) (.cells #[.int .u8 K, .int .i64 G, .int .u16 M] 56)
        have HBA := hid (HB.out.trans (hba.mono HB.out.size))
        have HRA := hid (HR.out.below hba)
        have HSA := hid (HS.out.below hba)
        have HXA := hid (HX.out.below hba)
        have hbz := HX.out.lt
        have hwz := HB.out.size
        obtain ⟨x0, x1, x2, x3, -⟩ := HX.out.all
        obtain ⟨y0, y1, y2, y3, -⟩ := HXA.out.all
        have HRN := hid (show xs.length ≤ 256 from HR.out.le)
        clear hcell hK hG hM hw0 hw1 hw2 hK8 hM8 hba HR HS HX HB
        go_wp2_with fail
        refine (do6_any p xs nx hs st _ K G M _ HRA.out HSA.out HST.out.1 HST.out.2.1 HST.out.2.2 HKM.out.1.1 HKM.out.1.2 HKM.out.2.1 HKM.out.2.2).mono ?_
        rintro e w5 ⟨ys, b', nx', st', ⟨rv', rfl, hg5, hr5, hx5, hap⟩, hyl, h05, h45, hn5⟩
        have hz5 := hx5.size
        simp only [World.size_alloc] at hz5
        have HX5 := hid (HXA.out.only hx5 (by omega))
        have HA5 := hid (hap b (by simp; omega) HA.out)
        have HB5 := hid (HBA.out.trans (hx5.low hp' (by simp; omega)))
        obtain ⟨x0', x1', x2', x3', g0, g1, g2, g3⟩ := HX5.out.all
        have HX6 := hid (HX5.out.set rv' b' nx' st')
        have HR6 := hid (hg5.kept (set4_at (n := b) (a := rv') (b := .bool b') (c := .int .i64 nx') (d := .int .i64 st') (show p ≠ b by omega)))
        have HS6 := hid (hr5.at (w' := (((w5.setCell ⟨b, 0, none⟩ rv').setCell ⟨b, 1, none⟩ (.bool b')).setCell ⟨b, 2, none⟩ (.int .i64 nx')).setCell ⟨b, 3, none⟩ (.int .i64 st')) (fun g o n c he h0 => set4_at (HA5.out g o n c he h0)) (by simp [World.setCell]))
        have HB6 := hid ((((HB5.out.setCell (p := ⟨b, 0, none⟩) hwb rv').setCell (p := ⟨b, 1, none⟩) hwb (.bool b')).setCell (p := ⟨b, 2, none⟩) hwb (.int .i64 nx')).setCell (p := ⟨b, 3, none⟩) hwb (.int .i64 st'))
        have HST6 := hid (show 0 ≤ st' ∧ st' ≤ 4 ∧ (b' = false → nx' = 0) from ⟨h05, h45, hn5⟩)
        have HYL := hid hyl
        obtain ⟨rva', rvn', rvc', rfl⟩ : ∃ a n c, rv' = .slice a n c := by obtain ⟨a, c, h, _⟩ := hr5.rd; exact ⟨a, _, c, h⟩
        clear hg5 hr5 hx5 hap hyl h05 h45 hn5 HXA HSA HRA HBA HB5 HX5 x0 x1 x2 x3 y0 y1 y2 y3 HST HKM HRN HA
        go_wp2_with fail
        refine (next_r p ys nx' b' st' _ HR6.out).mono ?_
        rintro e w7 ⟨rfl, hq7⟩
        have HX7 := hid (HX6.out.kept (W' := w7) (by rw [hq7.heap]))
        have HR7 := hid (HR6.out.quiet hq7)
        have HS7 := hid (HS6.out.only (OnlyO.quiet hq7))
        have HB7 := hid (HB6.out.trans (hq7.below _))
        have hp7 := HR7.out.lt
        obtain ⟨x0, x1, x2, x3, -⟩ := HX7.out.all
        clear hq7 HX6 HR6 HS6 HB6 x0' x1' x2' x3' g0 g1 g2 g3 hz5
        go_wp2_with fail
        refine (reflist_any _ ys b' nx' st' p _ HS7.out HYL.out hp7).mono ?_
        rintro e w8 ⟨v8, rfl, hs8, hb8⟩
        have HX8 := hid (HX7.out.below hb8)
        have HR8 := hid (HR7.out.below hb8)
        have HS8 := hid (HS7.out.below hb8)
        have HV8 := hid hs8
        have HB8 := hid (HB7.out.trans (hb8.mono (HB7.out.size)))
        have HAL := hid (allL_len ys nx' b')
        have HL := hid (show (allL ys nx' b').length ≤ 1000 by have h1 := HAL.out; have h2 := HYL.out; cases b' <;> simp at h1 <;> omega)
        obtain ⟨va, vc, rfl⟩ : ∃ a c, v8 = .slice a (allL ys nx' b').length c := by obtain ⟨a, c, h, _⟩ := hs8.rd; exact ⟨a, c, h⟩
        obtain ⟨m, hm⟩ : ∃ m, m = (allL ys nx' b').length := ⟨_, rfl⟩
        rw [← hm] at HAL HV8 ⊢
        have CLN := hid (fun W h => len_r p ys nx' b' st' W h (m : Int) HAL.out)
        have CLS := hid (fun W h => list_r p ys nx' b' st' W h)
        have CST := hid (fun W h => streak_r p ys nx' b' st' W h)
        obtain ⟨zs, hzs⟩ : ∃ zs, zs = allL ys nx' b' := ⟨_, rfl⟩
        rw [← hzs] at HV8 HL CLS
        have HX8d := hid (show Bx w8.drew b _ b' nx' st' from HX8.out)
        have HR8d := hid (HR8.out.quiet (w' := w8.drew) ⟨1, rfl⟩)
        have HV8d := hid (HV8.out.only (OnlyO.quiet (w' := w8.drew) ⟨1, rfl⟩))
        have HS8d := hid (HS8.out.only (OnlyO.quiet (w' := w8.drew) ⟨1, rfl⟩))
        have HB8d := hid (HB8.out.drew)
        clear hs8 hb8 HX7 HR7 HS7 HB7 hp7 x0 x1 x2 x3 HAL hm hzs HX8 HR8 HS8 HV8 HB8
        obtain ⟨q0, q1, q2, q3, -⟩ := HX8d.out.all
        have t1 : ((m : Int) != m) = false := by simp
        have t2 : (nx' != nx') = false := by simp
        have t3 : (st' != st') = false := by simp
        have HNX := hid HST6.out.2.2
        go_upto_region 12 with (fail)
        rcases b' with _ | _
        · obtain rfl : nx' = 0 := HNX.out rfl
          refine wp_region_held_drew (S := (fun w' => w'.cell? ⟨b, 1, none⟩ = some (.bool false) ∧ w'.cell? ⟨b, 2, none⟩ = some (.int .i64 0) ∧ w'.cell? ⟨b, 3, none⟩ = some (.int .i64 st'))) (by kernel_rfl) ?hSf0 (fun hHeld => ?_)
          case hSf0 => (first | assumption | exact HX10.out.sx | exact HX9.out.sx | exact HX8d.out.sx)
          refine wpAnyH_take (i := 0) (oi := { dst := some 40, op := Op.move (Operand.tmp 7), type := 4, pos := "law.go:86", after := #[], guard := none }) (v := ?vf0) rfl (by kernel_rfl) (by kernel_rfl) (by kernel_rfl) (fun _ _ _ h => h) (Or.inl ⟨by rfl, ?hf0⟩) (by assumption) ?_
          case hf0 => (intro w hSw; (try dsimp only at hSw); go_simp; try with_reducible rfl)
          try simp only [Act.put, List.setIfInBounds_toArray, List.set_cons_zero, List.set_cons_succ]
          refine wpAnyH_take (i := 1) (oi := { dst := some 41, op := Op.unOp UnOp.not 4 (Operand.tmp 40), type := 4, pos := "law.go:86", after := #[{ on := 0, ground := Ground.data }], guard := none }) (v := ?vf1) rfl (by kernel_rfl) (by kernel_rfl) (by kernel_rfl) (fun _ _ _ h => h) (Or.inl ⟨by rfl, ?hf1⟩) (by assumption) ?_
          case hf1 => (intro w hSw; (try dsimp only at hSw); go_simp; try with_reducible rfl)
          try simp only [Act.put, List.setIfInBounds_toArray, List.set_cons_zero, List.set_cons_succ]
          refine wpAnyH_take (i := 2) (oi := { dst := some 42, op := Op.move (Operand.tmp 41), type := 4, pos := "law.go:86", after := #[{ on := 1, ground := Ground.data }], guard := none }) (v := ?vf2) rfl (by kernel_rfl) (by kernel_rfl) (by kernel_rfl) (fun _ _ _ h => h) (Or.inl ⟨by rfl, ?hf2⟩) (by assumption) ?_
          case hf2 => (intro w hSw; (try dsimp only at hSw); go_simp; try with_reducible rfl)
          try simp only [Act.put, List.setIfInBounds_toArray, List.set_cons_zero, List.set_cons_succ]
          refine wpAnyH_take (i := 3) (oi := { dst := some 43, op := Op.move (Operand.tmp 3), type := 47, pos := "law.go:86", after := #[{ on := 2, ground := Ground.guard }], guard := some (2, false) }) (v := ?vf3) rfl (by kernel_rfl) (by kernel_rfl) (by kernel_rfl) (fun _ _ _ h => h) (Or.inl ⟨by rfl, ?hf3⟩) (by assumption) ?_
          case hf3 => (intro w hSw; (try dsimp only at hSw); go_simp; try with_reducible rfl)
          try simp only [Act.put, List.setIfInBounds_toArray, List.set_cons_zero, List.set_cons_succ]
          refine wpAnyH_take (i := 5) (oi := { dst := some 45, op := Op.move (Operand.tmp 10), type := 22, pos := "law.go:86", after := #[{ on := 2, ground := Ground.guard }], guard := some (2, false) }) (v := ?vf5) rfl (by kernel_rfl) (by kernel_rfl) (by kernel_rfl) (fun _ _ _ h => h) (Or.inl ⟨by rfl, ?hf5⟩) (by assumption) ?_
          case hf5 => (intro w hSw; (try dsimp only at hSw); go_simp; try with_reducible rfl)
          try simp only [Act.put, List.setIfInBounds_toArray, List.set_cons_zero, List.set_cons_succ]
          refine wpAnyH_take (i := 6) (oi := { dst := some 46, op := Op.call { callee := Callee.builtin Builtin.len, args := #[Operand.tmp 45], argTypes := #[22] }, type := 3, pos := "law.go:86", after := #[{ on := 5, ground := Ground.data }, { on := 2, ground := Ground.guard }], guard := some (2, false) }) (v := ?vf6) rfl (by kernel_rfl) (by kernel_rfl) (by kernel_rfl) (fun _ _ _ h => h) (Or.inl ⟨by rfl, ?hf6⟩) (by assumption) ?_
          case hf6 => (intro w hSw; (try dsimp only at hSw); go_simp; try with_reducible rfl)
          try simp only [Act.put, List.setIfInBounds_toArray, List.set_cons_zero, List.set_cons_succ]
          refine wpAnyH_ready (rs := [4]) (by kernel_rfl) (by simp) ?_
          refine AllReadyH.cons (o := { dst := some 44, op := Op.call { callee := Callee.value (Operand.func 39), args := #[Operand.tmp 43], argTypes := #[47] }, type := 3, pos := "law.go:86", after := #[{ on := 3, ground := Ground.data }, { on := 2, ground := Ground.chain }, { on := 2, ground := Ground.guard }], guard := some (2, false) }) rfl (fun K hK => ?_) AllReadyH.nil
          go_simp
          refine (CLN.out _ HR8d.out).mono ?_; rintro e w' ⟨rfl, rfl⟩; go_simp
          refine hK.out _ _ ?hSf4 (fun hHeld => ?_)
          case hSf4 => (first | assumption | exact HX10.out.sx | exact HX9.out.sx | exact HX8d.out.sx)
          clear hK K
          try simp only [Act.put, List.setIfInBounds_toArray, List.set_cons_zero, List.set_cons_succ]
          refine wpAnyH_take (i := 7) (oi := { dst := some 47, op := Op.binOp BinOp.neq 3 (Operand.tmp 44) (Operand.tmp 46) 3, type := 4, pos := "law.go:86", after := #[{ on := 4, ground := Ground.data }, { on := 6, ground := Ground.data }, { on := 2, ground := Ground.guard }], guard := some (2, false) }) (v := ?vf7) rfl (by kernel_rfl) (by kernel_rfl) (by kernel_rfl) (fun _ _ _ h => h) (Or.inl ⟨by rfl, ?hf7⟩) (by assumption) ?_
          case hf7 => (intro w hSw; (try dsimp only at hSw); go_simp; try with_reducible rfl)
          try simp only [Act.put, List.setIfInBounds_toArray, List.set_cons_zero, List.set_cons_succ]
          refine wpAnyH_take (i := 8) (oi := { dst := some 48, op := Op.pick (Operand.tmp 42) (Operand.const (Value.bool true)) (Operand.tmp 47), type := 4, pos := "law.go:86", after := #[{ on := 2, ground := Ground.data }, { on := 7, ground := Ground.data }], guard := none }) (v := ?vf8) rfl (by kernel_rfl) (by kernel_rfl) (by kernel_rfl) (fun _ _ _ h => h) (Or.inl ⟨by rfl, ?hf8⟩) (by assumption) ?_
          case hf8 => (intro w hSw; (try dsimp only at hSw); go_simp; try with_reducible rfl)
          try simp only [Act.put, List.setIfInBounds_toArray, List.set_cons_zero, List.set_cons_succ]
          refine wpAnyH_take (i := 9) (oi := { dst := some 49, op := Op.move (Operand.tmp 48), type := 4, pos := "law.go:86", after := #[{ on := 8, ground := Ground.data }, { on := 4, ground := Ground.chain }], guard := none }) (v := ?vf9) rfl (by kernel_rfl) (by kernel_rfl) (by kernel_rfl) (fun _ _ _ h => h) (Or.inl ⟨by rfl, ?hf9⟩) (by assumption) ?_
          case hf9 => (intro w hSw; (try dsimp only at hSw); go_simp; try with_reducible rfl)
          try simp only [Act.put, List.setIfInBounds_toArray, List.set_cons_zero, List.set_cons_succ]
          refine wpAnyH_take (i := 10) (oi := { dst := some 50, op := Op.move (Operand.tmp 3), type := 47, pos := "law.go:86", after := #[{ on := 9, ground := Ground.guard }], guard := some (9, false) }) (v := ?vf10) rfl (by kernel_rfl) (by kernel_rfl) (by kernel_rfl) (fun _ _ _ h => h) (Or.inl ⟨by rfl, ?hf10⟩) (by assumption) ?_
          case hf10 => (intro w hSw; (try dsimp only at hSw); go_simp; try with_reducible rfl)
          try simp only [Act.put, List.setIfInBounds_toArray, List.set_cons_zero, List.set_cons_succ]
          refine wpAnyH_take (i := 12) (oi := { dst := some 52, op := Op.move (Operand.tmp 10), type := 22, pos := "law.go:86", after := #[{ on := 9, ground := Ground.guard }], guard := some (9, false) }) (v := ?vf12) rfl (by kernel_rfl) (by kernel_rfl) (by kernel_rfl) (fun _ _ _ h => h) (Or.inl ⟨by rfl, ?hf12⟩) (by assumption) ?_
          case hf12 => (intro w hSw; (try dsimp only at hSw); go_simp; try with_reducible rfl)
          try simp only [Act.put, List.setIfInBounds_toArray, List.set_cons_zero, List.set_cons_succ]
          refine wpAnyH_ready (rs := [11]) (by kernel_rfl) (by simp) ?_
          refine AllReadyH.cons (o := { dst := some 51, op := Op.call { callee := Callee.value (Operand.func 40), args := #[Operand.tmp 50], argTypes := #[47] }, type := 22, pos := "law.go:86", after := #[{ on := 10, ground := Ground.data }, { on := 9, ground := Ground.chain }, { on := 9, ground := Ground.guard }], guard := some (9, false) }) rfl (fun K hK => ?_) AllReadyH.nil
          go_simp
          refine (CLS.out _ HR8d.out).mono ?_; rintro e w9 ⟨v9, rfl, ho9, hb9⟩; obtain ⟨va9, vn9, vc9, rfl⟩ := ho9.slice3; have HX9 := hid (HX8d.out.below hb9); have HO9 := hid ho9; have HB9 := hid hb9; clear ho9 hb9; go_simp
          refine hK.out _ _ ?hSf11 (fun hHeld => ?_)
          case hSf11 => (first | assumption | exact HX10.out.sx | exact HX9.out.sx | exact HX8d.out.sx)
          clear hK K
          try simp only [Act.put, List.setIfInBounds_toArray, List.set_cons_zero, List.set_cons_succ]
          refine wpAnyH_ready (rs := [13]) (by kernel_rfl) (by simp) ?_
          refine AllReadyH.cons (o := { dst := some 53, op := Op.call { callee := Callee.value (Operand.func 25), args := #[Operand.tmp 51, Operand.tmp 52], argTypes := #[22, 22] }, type := 4, pos := "law.go:86", after := #[{ on := 11, ground := Ground.data }, { on := 12, ground := Ground.data }, { on := 11, ground := Ground.chain }, { on := 9, ground := Ground.guard }], guard := some (9, false) }) rfl (fun K hK => ?_) AllReadyH.nil
          go_simp
          refine (same_any _ _ zs zs true (by simp) _ HO9.out.reads (HV8d.out.below HB9.out).rd (by have := HL.out; omega) (by have := HL.out; omega)).mono ?_; rintro e w10 ⟨rfl, hq10⟩; have HX10 := hid (HX9.out.kept (W' := w10) (by rw [hq10.heap])); have HQ10 := hid hq10; clear hq10; go_simp
          refine hK.out _ _ ?hSf13 (fun hHeld => ?_)
          case hSf13 => (first | assumption | exact HX10.out.sx | exact HX9.out.sx | exact HX8d.out.sx)
          clear hK K
          try simp only [Act.put, List.setIfInBounds_toArray, List.set_cons_zero, List.set_cons_succ]
          refine wpAnyH_take (i := 14) (oi := { dst := some 54, op := Op.unOp UnOp.not 4 (Operand.tmp 53), type := 4, pos := "law.go:86", after := #[{ on := 13, ground := Ground.data }, { on := 9, ground := Ground.guard }], guard := some (9, false) }) (v := ?vf14) rfl (by kernel_rfl) (by kernel_rfl) (by kernel_rfl) (fun _ _ _ h => h) (Or.inl ⟨by rfl, ?hf14⟩) (by assumption) ?_
          case hf14 => (intro w hSw; (try dsimp only at hSw); go_simp; try with_reducible rfl)
          try simp only [Act.put, List.setIfInBounds_toArray, List.set_cons_zero, List.set_cons_succ]
          refine wpAnyH_take (i := 15) (oi := { dst := some 55, op := Op.pick (Operand.tmp 49) (Operand.const (Value.bool true)) (Operand.tmp 54), type := 4, pos := "law.go:86", after := #[{ on := 9, ground := Ground.data }, { on := 14, ground := Ground.data }], guard := none }) (v := ?vf15) rfl (by kernel_rfl) (by kernel_rfl) (by kernel_rfl) (fun _ _ _ h => h) (Or.inl ⟨by rfl, ?hf15⟩) (by assumption) ?_
          case hf15 => (intro w hSw; (try dsimp only at hSw); go_simp; try with_reducible rfl)
          try simp only [Act.put, List.setIfInBounds_toArray, List.set_cons_zero, List.set_cons_succ]
          refine wpAnyH_take (i := 16) (oi := { dst := some 56, op := Op.move (Operand.tmp 55), type := 4, pos := "law.go:86", after := #[{ on := 15, ground := Ground.data }, { on := 13, ground := Ground.chain }], guard := none }) (v := ?vf16) rfl (by kernel_rfl) (by kernel_rfl) (by kernel_rfl) (fun _ _ _ h => h) (Or.inl ⟨by rfl, ?hf16⟩) (by assumption) ?_
          case hf16 => (intro w hSw; (try dsimp only at hSw); go_simp; try with_reducible rfl)
          try simp only [Act.put, List.setIfInBounds_toArray, List.set_cons_zero, List.set_cons_succ]
          refine wpAnyH_take (i := 17) (oi := { dst := some 57, op := Op.move (Operand.tmp 9), type := 4, pos := "law.go:86", after := #[{ on := 16, ground := Ground.guard }], guard := some (16, false) }) (v := ?vf17) rfl (by kernel_rfl) (by kernel_rfl) (by kernel_rfl) (fun _ _ _ h => h) (Or.inl ⟨by rfl, ?hf17⟩) (by assumption) ?_
          case hf17 => (intro w hSw; (try dsimp only at hSw); go_simp; try with_reducible rfl)
          try simp only [Act.put, List.setIfInBounds_toArray, List.set_cons_zero, List.set_cons_succ]
          refine wpAnyH_take (i := 18) (oi := { dst := some 58, op := Op.fieldAddr 54 (Operand.tmp 4) 1, type := 0, pos := "law.go:86", after := #[{ on := 16, ground := Ground.guard }], guard := some (16, false) }) (v := ?vf18) rfl (by kernel_rfl) (by kernel_rfl) (by kernel_rfl) (fun _ _ _ h => h) (Or.inl ⟨by rfl, ?hf18⟩) (by assumption) ?_
          case hf18 => (intro w hSw; (try dsimp only at hSw); go_simp; try with_reducible rfl)
          try simp only [Act.put, List.setIfInBounds_toArray, List.set_cons_zero, List.set_cons_succ]
          refine wpAnyH_take (i := 19) (oi := { dst := some 59, op := Op.load 4 (Operand.tmp 58), type := 4, pos := "law.go:86", after := #[{ on := 18, ground := Ground.data }, { on := 16, ground := Ground.guard }], guard := some (16, false) }) (v := ?vf19) rfl (by kernel_rfl) (by kernel_rfl) (by kernel_rfl) (fun _ _ _ h => h) (Or.inl ⟨by rfl, ?hf19⟩) (by assumption) ?_
          case hf19 => (intro w hSw; (try dsimp only at hSw); go_simp; try with_reducible rfl)
          try simp only [Act.put, List.setIfInBounds_toArray, List.set_cons_zero, List.set_cons_succ]
          refine wpAnyH_take (i := 20) (oi := { dst := some 60, op := Op.binOp BinOp.neq 4 (Operand.tmp 57) (Operand.tmp 59) 4, type := 4, pos := "law.go:86", after := #[{ on := 17, ground := Ground.data }, { on := 19, ground := Ground.data }, { on := 16, ground := Ground.guard }], guard := some (16, false) }) (v := ?vf20) rfl (by kernel_rfl) (by kernel_rfl) (by kernel_rfl) (fun _ _ _ h => h) (Or.inl ⟨by rfl, ?hf20⟩) (by assumption) ?_
          case hf20 => (intro w hSw; (try dsimp only at hSw); go_simp; try with_reducible rfl)
          try simp only [Act.put, List.setIfInBounds_toArray, List.set_cons_zero, List.set_cons_succ]
          refine wpAnyH_take (i := 21) (oi := { dst := some 61, op := Op.pick (Operand.tmp 56) (Operand.const (Value.bool true)) (Operand.tmp 60), type := 4, pos := "law.go:86", after := #[{ on := 16, ground := Ground.data }, { on := 20, ground := Ground.data }], guard := none }) (v := ?vf21) rfl (by kernel_rfl) (by kernel_rfl) (by kernel_rfl) (fun _ _ _ h => h) (Or.inl ⟨by rfl, ?hf21⟩) (by assumption) ?_
          case hf21 => (intro w hSw; (try dsimp only at hSw); go_simp; try with_reducible rfl)
          try simp only [Act.put, List.setIfInBounds_toArray, List.set_cons_zero, List.set_cons_succ]
          refine wpAnyH_take (i := 22) (oi := { dst := some 62, op := Op.move (Operand.tmp 61), type := 4, pos := "law.go:86", after := #[{ on := 21, ground := Ground.data }, { on := 16, ground := Ground.chain }], guard := none }) (v := ?vf22) rfl (by kernel_rfl) (by kernel_rfl) (by kernel_rfl) (fun _ _ _ h => h) (Or.inl ⟨by rfl, ?hf22⟩) (by assumption) ?_
          case hf22 => (intro w hSw; (try dsimp only at hSw); go_simp; try with_reducible rfl)
          try simp only [Act.put, List.setIfInBounds_toArray, List.set_cons_zero, List.set_cons_succ]
          refine wpAnyH_take (i := 23) (oi := { dst := some 63, op := Op.move (Operand.tmp 9), type := 4, pos := "law.go:86", after := #[{ on := 22, ground := Ground.guard }], guard := some (22, false) }) (v := ?vf23) rfl (by kernel_rfl) (by kernel_rfl) (by kernel_rfl) (fun _ _ _ h => h) (Or.inl ⟨by rfl, ?hf23⟩) (by assumption) ?_
          case hf23 => (intro w hSw; (try dsimp only at hSw); go_simp; try with_reducible rfl)
          try simp only [Act.put, List.setIfInBounds_toArray, List.set_cons_zero, List.set_cons_succ]
          refine wpAnyH_take (i := 24) (oi := { dst := some 64, op := Op.move (Operand.tmp 63), type := 4, pos := "law.go:86", after := #[{ on := 23, ground := Ground.data }, { on := 22, ground := Ground.chain }, { on := 22, ground := Ground.guard }], guard := some (22, false) }) (v := ?vf24) rfl (by kernel_rfl) (by kernel_rfl) (by kernel_rfl) (fun _ _ _ h => h) (Or.inl ⟨by rfl, ?hf24⟩) (by assumption) ?_
          case hf24 => (intro w hSw; (try dsimp only at hSw); go_simp; try with_reducible rfl)
          try simp only [Act.put, List.setIfInBounds_toArray, List.set_cons_zero, List.set_cons_succ]
          refine wpAnyH_take (i := 25) (oi := { dst := some 65, op := Op.move (Operand.tmp 8), type := 3, pos := "law.go:86", after := #[{ on := 24, ground := Ground.guard }], guard := some (24, true) }) (v := undef) rfl (by kernel_rfl) (by kernel_rfl) (by kernel_rfl) (fun _ _ _ h => h) (Or.inr ⟨by rfl, rfl⟩) (by assumption) ?_
          try simp only [Act.put, List.setIfInBounds_toArray, List.set_cons_zero, List.set_cons_succ]
          refine wpAnyH_take (i := 26) (oi := { dst := some 66, op := Op.fieldAddr 54 (Operand.tmp 4) 2, type := 0, pos := "law.go:86", after := #[{ on := 24, ground := Ground.guard }], guard := some (24, true) }) (v := undef) rfl (by kernel_rfl) (by kernel_rfl) (by kernel_rfl) (fun _ _ _ h => h) (Or.inr ⟨by rfl, rfl⟩) (by assumption) ?_
          try simp only [Act.put, List.setIfInBounds_toArray, List.set_cons_zero, List.set_cons_succ]
          refine wpAnyH_take (i := 27) (oi := { dst := some 67, op := Op.load 3 (Operand.tmp 66), type := 3, pos := "law.go:86", after := #[{ on := 26, ground := Ground.data }, { on := 24, ground := Ground.guard }], guard := some (24, true) }) (v := undef) rfl (by kernel_rfl) (by kernel_rfl) (by kernel_rfl) (fun _ _ _ h => h) (Or.inr ⟨by rfl, rfl⟩) (by assumption) ?_
          try simp only [Act.put, List.setIfInBounds_toArray, List.set_cons_zero, List.set_cons_succ]
          refine wpAnyH_take (i := 28) (oi := { dst := some 68, op := Op.binOp BinOp.neq 3 (Operand.tmp 65) (Operand.tmp 67) 3, type := 4, pos := "law.go:86", after := #[{ on := 25, ground := Ground.data }, { on := 27, ground := Ground.data }, { on := 24, ground := Ground.guard }], guard := some (24, true) }) (v := undef) rfl (by kernel_rfl) (by kernel_rfl) (by kernel_rfl) (fun _ _ _ h => h) (Or.inr ⟨by rfl, rfl⟩) (by assumption) ?_
          try simp only [Act.put, List.setIfInBounds_toArray, List.set_cons_zero, List.set_cons_succ]
          refine wpAnyH_take (i := 29) (oi := { dst := some 69, op := Op.pick (Operand.tmp 64) (Operand.tmp 68) (Operand.const (Value.bool false)), type := 4, pos := "law.go:86", after := #[{ on := 24, ground := Ground.data }, { on := 28, ground := Ground.data }, { on := 22, ground := Ground.guard }], guard := some (22, false) }) (v := ?vf29) rfl (by kernel_rfl) (by kernel_rfl) (by kernel_rfl) (fun _ _ _ h => h) (Or.inl ⟨by rfl, ?hf29⟩) (by assumption) ?_
          case hf29 => (intro w hSw; (try dsimp only at hSw); go_simp; try with_reducible rfl)
          try simp only [Act.put, List.setIfInBounds_toArray, List.set_cons_zero, List.set_cons_succ]
          refine wpAnyH_take (i := 30) (oi := { dst := some 70, op := Op.pick (Operand.tmp 62) (Operand.const (Value.bool true)) (Operand.tmp 69), type := 4, pos := "law.go:86", after := #[{ on := 22, ground := Ground.data }, { on := 29, ground := Ground.data }], guard := none }) (v := ?vf30) rfl (by kernel_rfl) (by kernel_rfl) (by kernel_rfl) (fun _ _ _ h => h) (Or.inl ⟨by rfl, ?hf30⟩) (by assumption) ?_
          case hf30 => (intro w hSw; (try dsimp only at hSw); go_simp; try with_reducible rfl)
          try simp only [Act.put, List.setIfInBounds_toArray, List.set_cons_zero, List.set_cons_succ]
          refine wpAnyH_take (i := 31) (oi := { dst := some 71, op := Op.move (Operand.tmp 70), type := 4, pos := "law.go:86", after := #[{ on := 30, ground := Ground.data }, { on := 24, ground := Ground.chain }], guard := none }) (v := ?vf31) rfl (by kernel_rfl) (by kernel_rfl) (by kernel_rfl) (fun _ _ _ h => h) (Or.inl ⟨by rfl, ?hf31⟩) (by assumption) ?_
          case hf31 => (intro w hSw; (try dsimp only at hSw); go_simp; try with_reducible rfl)
          try simp only [Act.put, List.setIfInBounds_toArray, List.set_cons_zero, List.set_cons_succ]
          refine wpAnyH_take (i := 32) (oi := { dst := some 72, op := Op.move (Operand.tmp 9), type := 4, pos := "law.go:86", after := #[{ on := 31, ground := Ground.guard }], guard := some (31, false) }) (v := ?vf32) rfl (by kernel_rfl) (by kernel_rfl) (by kernel_rfl) (fun _ _ _ h => h) (Or.inl ⟨by rfl, ?hf32⟩) (by assumption) ?_
          case hf32 => (intro w hSw; (try dsimp only at hSw); go_simp; try with_reducible rfl)
          try simp only [Act.put, List.setIfInBounds_toArray, List.set_cons_zero, List.set_cons_succ]
          refine wpAnyH_take (i := 33) (oi := { dst := some 73, op := Op.unOp UnOp.not 4 (Operand.tmp 72), type := 4, pos := "law.go:86", after := #[{ on := 32, ground := Ground.data }, { on := 31, ground := Ground.guard }], guard := some (31, false) }) (v := ?vf33) rfl (by kernel_rfl) (by kernel_rfl) (by kernel_rfl) (fun _ _ _ h => h) (Or.inl ⟨by rfl, ?hf33⟩) (by assumption) ?_
          case hf33 => (intro w hSw; (try dsimp only at hSw); go_simp; try with_reducible rfl)
          try simp only [Act.put, List.setIfInBounds_toArray, List.set_cons_zero, List.set_cons_succ]
          refine wpAnyH_take (i := 34) (oi := { dst := some 74, op := Op.move (Operand.tmp 73), type := 4, pos := "law.go:86", after := #[{ on := 33, ground := Ground.data }, { on := 31, ground := Ground.chain }, { on := 31, ground := Ground.guard }], guard := some (31, false) }) (v := ?vf34) rfl (by kernel_rfl) (by kernel_rfl) (by kernel_rfl) (fun _ _ _ h => h) (Or.inl ⟨by rfl, ?hf34⟩) (by assumption) ?_
          case hf34 => (intro w hSw; (try dsimp only at hSw); go_simp; try with_reducible rfl)
          try simp only [Act.put, List.setIfInBounds_toArray, List.set_cons_zero, List.set_cons_succ]
          refine wpAnyH_take (i := 35) (oi := { dst := some 75, op := Op.move (Operand.tmp 8), type := 3, pos := "law.go:86", after := #[{ on := 34, ground := Ground.guard }], guard := some (34, true) }) (v := ?vf35) rfl (by kernel_rfl) (by kernel_rfl) (by kernel_rfl) (fun _ _ _ h => h) (Or.inl ⟨by rfl, ?hf35⟩) (by assumption) ?_
          case hf35 => (intro w hSw; (try dsimp only at hSw); go_simp; try with_reducible rfl)
          try simp only [Act.put, List.setIfInBounds_toArray, List.set_cons_zero, List.set_cons_succ]
          refine wpAnyH_take (i := 36) (oi := { dst := some 76, op := Op.binOp BinOp.neq 3 (Operand.tmp 75) (Operand.const (Value.int IntKind.i64 0)) 3, type := 4, pos := "law.go:86", after := #[{ on := 35, ground := Ground.data }, { on := 34, ground := Ground.guard }], guard := some (34, true) }) (v := ?vf36) rfl (by kernel_rfl) (by kernel_rfl) (by kernel_rfl) (fun _ _ _ h => h) (Or.inl ⟨by rfl, ?hf36⟩) (by assumption) ?_
          case hf36 => (intro w hSw; (try dsimp only at hSw); go_simp; try with_reducible rfl)
          try simp only [Act.put, List.setIfInBounds_toArray, List.set_cons_zero, List.set_cons_succ]
          refine wpAnyH_take (i := 37) (oi := { dst := some 77, op := Op.pick (Operand.tmp 74) (Operand.tmp 76) (Operand.const (Value.bool false)), type := 4, pos := "law.go:86", after := #[{ on := 34, ground := Ground.data }, { on := 36, ground := Ground.data }, { on := 31, ground := Ground.guard }], guard := some (31, false) }) (v := ?vf37) rfl (by kernel_rfl) (by kernel_rfl) (by kernel_rfl) (fun _ _ _ h => h) (Or.inl ⟨by rfl, ?hf37⟩) (by assumption) ?_
          case hf37 => (intro w hSw; (try dsimp only at hSw); go_simp; try with_reducible rfl)
          try simp only [Act.put, List.setIfInBounds_toArray, List.set_cons_zero, List.set_cons_succ]
          refine wpAnyH_take (i := 38) (oi := { dst := some 78, op := Op.pick (Operand.tmp 71) (Operand.const (Value.bool true)) (Operand.tmp 77), type := 4, pos := "law.go:86", after := #[{ on := 31, ground := Ground.data }, { on := 37, ground := Ground.data }], guard := none }) (v := ?vf38) rfl (by kernel_rfl) (by kernel_rfl) (by kernel_rfl) (fun _ _ _ h => h) (Or.inl ⟨by rfl, ?hf38⟩) (by assumption) ?_
          case hf38 => (intro w hSw; (try dsimp only at hSw); go_simp; try with_reducible rfl)
          try simp only [Act.put, List.setIfInBounds_toArray, List.set_cons_zero, List.set_cons_succ]
          refine wpAnyH_take (i := 39) (oi := { dst := some 79, op := Op.move (Operand.tmp 78), type := 4, pos := "law.go:86", after := #[{ on := 38, ground := Ground.data }, { on := 34, ground := Ground.chain }], guard := none }) (v := ?vf39) rfl (by kernel_rfl) (by kernel_rfl) (by kernel_rfl) (fun _ _ _ h => h) (Or.inl ⟨by rfl, ?hf39⟩) (by assumption) ?_
          case hf39 => (intro w hSw; (try dsimp only at hSw); go_simp; try with_reducible rfl)
          try simp only [Act.put, List.setIfInBounds_toArray, List.set_cons_zero, List.set_cons_succ]
          refine wpAnyH_take (i := 40) (oi := { dst := some 80, op := Op.move (Operand.tmp 3), type := 47, pos := "law.go:86", after := #[{ on := 39, ground := Ground.guard }], guard := some (39, false) }) (v := ?vf40) rfl (by kernel_rfl) (by kernel_rfl) (by kernel_rfl) (fun _ _ _ h => h) (Or.inl ⟨by rfl, ?hf40⟩) (by assumption) ?_
          case hf40 => (intro w hSw; (try dsimp only at hSw); go_simp; try with_reducible rfl)
          try simp only [Act.put, List.setIfInBounds_toArray, List.set_cons_zero, List.set_cons_succ]
          refine wpAnyH_take (i := 42) (oi := { dst := some 82, op := Op.fieldAddr 54 (Operand.tmp 4) 3, type := 0, pos := "law.go:86", after := #[{ on := 39, ground := Ground.guard }], guard := some (39, false) }) (v := ?vf42) rfl (by kernel_rfl) (by kernel_rfl) (by kernel_rfl) (fun _ _ _ h => h) (Or.inl ⟨by rfl, ?hf42⟩) (by assumption) ?_
          case hf42 => (intro w hSw; (try dsimp only at hSw); go_simp; try with_reducible rfl)
          try simp only [Act.put, List.setIfInBounds_toArray, List.set_cons_zero, List.set_cons_succ]
          refine wpAnyH_take (i := 43) (oi := { dst := some 83, op := Op.load 3 (Operand.tmp 82), type := 3, pos := "law.go:86", after := #[{ on := 42, ground := Ground.data }, { on := 39, ground := Ground.guard }], guard := some (39, false) }) (v := ?vf43) rfl (by kernel_rfl) (by kernel_rfl) (by kernel_rfl) (fun _ _ _ h => h) (Or.inl ⟨by rfl, ?hf43⟩) (by assumption) ?_
          case hf43 => (intro w hSw; (try dsimp only at hSw); go_simp; try with_reducible rfl)
          try simp only [Act.put, List.setIfInBounds_toArray, List.set_cons_zero, List.set_cons_succ]
          refine wpAnyH_ready (rs := [41]) (by kernel_rfl) (by simp) ?_
          refine AllReadyH.cons (o := { dst := some 81, op := Op.call { callee := Callee.value (Operand.func 44), args := #[Operand.tmp 80], argTypes := #[47] }, type := 3, pos := "law.go:86", after := #[{ on := 40, ground := Ground.data }, { on := 39, ground := Ground.chain }, { on := 39, ground := Ground.guard }], guard := some (39, false) }) rfl (fun K hK => ?_) AllReadyH.nil
          go_simp
          refine (CST.out _ ((HR8d.out.below HB9.out).quiet HQ10.out)).mono ?_; rintro e w' ⟨rfl, rfl⟩; go_simp
          refine hK.out _ _ ?hSf41 (fun hHeld => ?_)
          case hSf41 => (first | assumption | exact HX10.out.sx | exact HX9.out.sx | exact HX8d.out.sx)
          clear hK K
          try simp only [Act.put, List.setIfInBounds_toArray, List.set_cons_zero, List.set_cons_succ]
          refine wpAnyH_take (i := 44) (oi := { dst := some 84, op := Op.binOp BinOp.neq 3 (Operand.tmp 81) (Operand.tmp 83) 3, type := 4, pos := "law.go:86", after := #[{ on := 41, ground := Ground.data }, { on := 43, ground := Ground.data }, { on := 39, ground := Ground.guard }], guard := some (39, false) }) (v := ?vf44) rfl (by kernel_rfl) (by kernel_rfl) (by kernel_rfl) (fun _ _ _ h => h) (Or.inl ⟨by rfl, ?hf44⟩) (by assumption) ?_
          case hf44 => (intro w hSw; (try dsimp only at hSw); go_simp; try with_reducible rfl)
          try simp only [Act.put, List.setIfInBounds_toArray, List.set_cons_zero, List.set_cons_succ]
          refine wpAnyH_take (i := 45) (oi := { dst := some 85, op := Op.pick (Operand.tmp 79) (Operand.const (Value.bool true)) (Operand.tmp 84), type := 4, pos := "law.go:86", after := #[{ on := 39, ground := Ground.data }, { on := 44, ground := Ground.data }], guard := none }) (v := ?vf45) rfl (by kernel_rfl) (by kernel_rfl) (by kernel_rfl) (fun _ _ _ h => h) (Or.inl ⟨by rfl, ?hf45⟩) (by assumption) ?_
          case hf45 => (intro w hSw; (try dsimp only at hSw); go_simp; try with_reducible rfl)
          try simp only [Act.put, List.setIfInBounds_toArray, List.set_cons_zero, List.set_cons_succ]
          refine wpAnyH_done (by kernel_rfl) ?_ _
          have HR11 := hid ((HR8d.out.below HB9.out).quiet HQ10.out)
          have HS11 := hid ((HS8d.out.below HB9.out).only (OnlyO.quiet HQ10.out))
          have HB11 := hid ((HB8d.out.trans (HB9.out.mono HB8d.out.size)).trans (HQ10.out.below _))
          clear HX9 HO9 HB9 HQ10 HX8d HR8d HV8d HS8d HB8d CLN CLS CST HNX q0 q1 q2 q3
          go_wp2
          go_roundw
          case rel => exact ⟨k + 1, ys, _, _, st', _, by omega, by go_num, HR11, HS11, HA5, HX10, HST6, HB11⟩
          case measure => simp [intOf]; omega
        · skip
          refine wp_region_held_drew (S := (fun w' => w'.cell? ⟨b, 1, none⟩ = some (.bool true) ∧ w'.cell? ⟨b, 2, none⟩ = some (.int .i64 nx') ∧ w'.cell? ⟨b, 3, none⟩ = some (.int .i64 st'))) (by kernel_rfl) ?hSt0 (fun hHeld => ?_)
          case hSt0 => (first | assumption | exact HX10.out.sx | exact HX9.out.sx | exact HX8d.out.sx)
          refine wpAnyH_take (i := 0) (oi := { dst := some 40, op := Op.move (Operand.tmp 7), type := 4, pos := "law.go:86", after := #[], guard := none }) (v := ?vt0) rfl (by kernel_rfl) (by kernel_rfl) (by kernel_rfl) (fun _ _ _ h => h) (Or.inl ⟨by rfl, ?ht0⟩) (by assumption) ?_
          case ht0 => (intro w hSw; (try dsimp only at hSw); go_simp; try with_reducible rfl)
          try simp only [Act.put, List.setIfInBounds_toArray, List.set_cons_zero, List.set_cons_succ]
          refine wpAnyH_take (i := 1) (oi := { dst := some 41, op := Op.unOp UnOp.not 4 (Operand.tmp 40), type := 4, pos := "law.go:86", after := #[{ on := 0, ground := Ground.data }], guard := none }) (v := ?vt1) rfl (by kernel_rfl) (by kernel_rfl) (by kernel_rfl) (fun _ _ _ h => h) (Or.inl ⟨by rfl, ?ht1⟩) (by assumption) ?_
          case ht1 => (intro w hSw; (try dsimp only at hSw); go_simp; try with_reducible rfl)
          try simp only [Act.put, List.setIfInBounds_toArray, List.set_cons_zero, List.set_cons_succ]
          refine wpAnyH_take (i := 2) (oi := { dst := some 42, op := Op.move (Operand.tmp 41), type := 4, pos := "law.go:86", after := #[{ on := 1, ground := Ground.data }], guard := none }) (v := ?vt2) rfl (by kernel_rfl) (by kernel_rfl) (by kernel_rfl) (fun _ _ _ h => h) (Or.inl ⟨by rfl, ?ht2⟩) (by assumption) ?_
          case ht2 => (intro w hSw; (try dsimp only at hSw); go_simp; try with_reducible rfl)
          try simp only [Act.put, List.setIfInBounds_toArray, List.set_cons_zero, List.set_cons_succ]
          refine wpAnyH_take (i := 3) (oi := { dst := some 43, op := Op.move (Operand.tmp 3), type := 47, pos := "law.go:86", after := #[{ on := 2, ground := Ground.guard }], guard := some (2, false) }) (v := ?vt3) rfl (by kernel_rfl) (by kernel_rfl) (by kernel_rfl) (fun _ _ _ h => h) (Or.inl ⟨by rfl, ?ht3⟩) (by assumption) ?_
          case ht3 => (intro w hSw; (try dsimp only at hSw); go_simp; try with_reducible rfl)
          try simp only [Act.put, List.setIfInBounds_toArray, List.set_cons_zero, List.set_cons_succ]
          refine wpAnyH_take (i := 5) (oi := { dst := some 45, op := Op.move (Operand.tmp 10), type := 22, pos := "law.go:86", after := #[{ on := 2, ground := Ground.guard }], guard := some (2, false) }) (v := ?vt5) rfl (by kernel_rfl) (by kernel_rfl) (by kernel_rfl) (fun _ _ _ h => h) (Or.inl ⟨by rfl, ?ht5⟩) (by assumption) ?_
          case ht5 => (intro w hSw; (try dsimp only at hSw); go_simp; try with_reducible rfl)
          try simp only [Act.put, List.setIfInBounds_toArray, List.set_cons_zero, List.set_cons_succ]
          refine wpAnyH_take (i := 6) (oi := { dst := some 46, op := Op.call { callee := Callee.builtin Builtin.len, args := #[Operand.tmp 45], argTypes := #[22] }, type := 3, pos := "law.go:86", after := #[{ on := 5, ground := Ground.data }, { on := 2, ground := Ground.guard }], guard := some (2, false) }) (v := ?vt6) rfl (by kernel_rfl) (by kernel_rfl) (by kernel_rfl) (fun _ _ _ h => h) (Or.inl ⟨by rfl, ?ht6⟩) (by assumption) ?_
          case ht6 => (intro w hSw; (try dsimp only at hSw); go_simp; try with_reducible rfl)
          try simp only [Act.put, List.setIfInBounds_toArray, List.set_cons_zero, List.set_cons_succ]
          refine wpAnyH_ready (rs := [4]) (by kernel_rfl) (by simp) ?_
          refine AllReadyH.cons (o := { dst := some 44, op := Op.call { callee := Callee.value (Operand.func 39), args := #[Operand.tmp 43], argTypes := #[47] }, type := 3, pos := "law.go:86", after := #[{ on := 3, ground := Ground.data }, { on := 2, ground := Ground.chain }, { on := 2, ground := Ground.guard }], guard := some (2, false) }) rfl (fun K hK => ?_) AllReadyH.nil
          go_simp
          refine (CLN.out _ HR8d.out).mono ?_; rintro e w' ⟨rfl, rfl⟩; go_simp
          refine hK.out _ _ ?hSt4 (fun hHeld => ?_)
          case hSt4 => (first | assumption | exact HX10.out.sx | exact HX9.out.sx | exact HX8d.out.sx)
          clear hK K
          try simp only [Act.put, List.setIfInBounds_toArray, List.set_cons_zero, List.set_cons_succ]
          refine wpAnyH_take (i := 7) (oi := { dst := some 47, op := Op.binOp BinOp.neq 3 (Operand.tmp 44) (Operand.tmp 46) 3, type := 4, pos := "law.go:86", after := #[{ on := 4, ground := Ground.data }, { on := 6, ground := Ground.data }, { on := 2, ground := Ground.guard }], guard := some (2, false) }) (v := ?vt7) rfl (by kernel_rfl) (by kernel_rfl) (by kernel_rfl) (fun _ _ _ h => h) (Or.inl ⟨by rfl, ?ht7⟩) (by assumption) ?_
          case ht7 => (intro w hSw; (try dsimp only at hSw); go_simp; try with_reducible rfl)
          try simp only [Act.put, List.setIfInBounds_toArray, List.set_cons_zero, List.set_cons_succ]
          refine wpAnyH_take (i := 8) (oi := { dst := some 48, op := Op.pick (Operand.tmp 42) (Operand.const (Value.bool true)) (Operand.tmp 47), type := 4, pos := "law.go:86", after := #[{ on := 2, ground := Ground.data }, { on := 7, ground := Ground.data }], guard := none }) (v := ?vt8) rfl (by kernel_rfl) (by kernel_rfl) (by kernel_rfl) (fun _ _ _ h => h) (Or.inl ⟨by rfl, ?ht8⟩) (by assumption) ?_
          case ht8 => (intro w hSw; (try dsimp only at hSw); go_simp; try with_reducible rfl)
          try simp only [Act.put, List.setIfInBounds_toArray, List.set_cons_zero, List.set_cons_succ]
          refine wpAnyH_take (i := 9) (oi := { dst := some 49, op := Op.move (Operand.tmp 48), type := 4, pos := "law.go:86", after := #[{ on := 8, ground := Ground.data }, { on := 4, ground := Ground.chain }], guard := none }) (v := ?vt9) rfl (by kernel_rfl) (by kernel_rfl) (by kernel_rfl) (fun _ _ _ h => h) (Or.inl ⟨by rfl, ?ht9⟩) (by assumption) ?_
          case ht9 => (intro w hSw; (try dsimp only at hSw); go_simp; try with_reducible rfl)
          try simp only [Act.put, List.setIfInBounds_toArray, List.set_cons_zero, List.set_cons_succ]
          refine wpAnyH_take (i := 10) (oi := { dst := some 50, op := Op.move (Operand.tmp 3), type := 47, pos := "law.go:86", after := #[{ on := 9, ground := Ground.guard }], guard := some (9, false) }) (v := ?vt10) rfl (by kernel_rfl) (by kernel_rfl) (by kernel_rfl) (fun _ _ _ h => h) (Or.inl ⟨by rfl, ?ht10⟩) (by assumption) ?_
          case ht10 => (intro w hSw; (try dsimp only at hSw); go_simp; try with_reducible rfl)
          try simp only [Act.put, List.setIfInBounds_toArray, List.set_cons_zero, List.set_cons_succ]
          refine wpAnyH_take (i := 12) (oi := { dst := some 52, op := Op.move (Operand.tmp 10), type := 22, pos := "law.go:86", after := #[{ on := 9, ground := Ground.guard }], guard := some (9, false) }) (v := ?vt12) rfl (by kernel_rfl) (by kernel_rfl) (by kernel_rfl) (fun _ _ _ h => h) (Or.inl ⟨by rfl, ?ht12⟩) (by assumption) ?_
          case ht12 => (intro w hSw; (try dsimp only at hSw); go_simp; try with_reducible rfl)
          try simp only [Act.put, List.setIfInBounds_toArray, List.set_cons_zero, List.set_cons_succ]
          refine wpAnyH_ready (rs := [11]) (by kernel_rfl) (by simp) ?_
          refine AllReadyH.cons (o := { dst := some 51, op := Op.call { callee := Callee.value (Operand.func 40), args := #[Operand.tmp 50], argTypes := #[47] }, type := 22, pos := "law.go:86", after := #[{ on := 10, ground := Ground.data }, { on := 9, ground := Ground.chain }, { on := 9, ground := Ground.guard }], guard := some (9, false) }) rfl (fun K hK => ?_) AllReadyH.nil
          go_simp
          refine (CLS.out _ HR8d.out).mono ?_; rintro e w9 ⟨v9, rfl, ho9, hb9⟩; obtain ⟨va9, vn9, vc9, rfl⟩ := ho9.slice3; have HX9 := hid (HX8d.out.below hb9); have HO9 := hid ho9; have HB9 := hid hb9; clear ho9 hb9; go_simp
          refine hK.out _ _ ?hSt11 (fun hHeld => ?_)
          case hSt11 => (first | assumption | exact HX10.out.sx | exact HX9.out.sx | exact HX8d.out.sx)
          clear hK K
          try simp only [Act.put, List.setIfInBounds_toArray, List.set_cons_zero, List.set_cons_succ]
          refine wpAnyH_ready (rs := [13]) (by kernel_rfl) (by simp) ?_
          refine AllReadyH.cons (o := { dst := some 53, op := Op.call { callee := Callee.value (Operand.func 25), args := #[Operand.tmp 51, Operand.tmp 52], argTypes := #[22, 22] }, type := 4, pos := "law.go:86", after := #[{ on := 11, ground := Ground.data }, { on := 12, ground := Ground.data }, { on := 11, ground := Ground.chain }, { on := 9, ground := Ground.guard }], guard := some (9, false) }) rfl (fun K hK => ?_) AllReadyH.nil
          go_simp
          refine (same_any _ _ zs zs true (by simp) _ HO9.out.reads (HV8d.out.below HB9.out).rd (by have := HL.out; omega) (by have := HL.out; omega)).mono ?_; rintro e w10 ⟨rfl, hq10⟩; have HX10 := hid (HX9.out.kept (W' := w10) (by rw [hq10.heap])); have HQ10 := hid hq10; clear hq10; go_simp
          refine hK.out _ _ ?hSt13 (fun hHeld => ?_)
          case hSt13 => (first | assumption | exact HX10.out.sx | exact HX9.out.sx | exact HX8d.out.sx)
          clear hK K
          try simp only [Act.put, List.setIfInBounds_toArray, List.set_cons_zero, List.set_cons_succ]
          refine wpAnyH_take (i := 14) (oi := { dst := some 54, op := Op.unOp UnOp.not 4 (Operand.tmp 53), type := 4, pos := "law.go:86", after := #[{ on := 13, ground := Ground.data }, { on := 9, ground := Ground.guard }], guard := some (9, false) }) (v := ?vt14) rfl (by kernel_rfl) (by kernel_rfl) (by kernel_rfl) (fun _ _ _ h => h) (Or.inl ⟨by rfl, ?ht14⟩) (by assumption) ?_
          case ht14 => (intro w hSw; (try dsimp only at hSw); go_simp; try with_reducible rfl)
          try simp only [Act.put, List.setIfInBounds_toArray, List.set_cons_zero, List.set_cons_succ]
          refine wpAnyH_take (i := 15) (oi := { dst := some 55, op := Op.pick (Operand.tmp 49) (Operand.const (Value.bool true)) (Operand.tmp 54), type := 4, pos := "law.go:86", after := #[{ on := 9, ground := Ground.data }, { on := 14, ground := Ground.data }], guard := none }) (v := ?vt15) rfl (by kernel_rfl) (by kernel_rfl) (by kernel_rfl) (fun _ _ _ h => h) (Or.inl ⟨by rfl, ?ht15⟩) (by assumption) ?_
          case ht15 => (intro w hSw; (try dsimp only at hSw); go_simp; try with_reducible rfl)
          try simp only [Act.put, List.setIfInBounds_toArray, List.set_cons_zero, List.set_cons_succ]
          refine wpAnyH_take (i := 16) (oi := { dst := some 56, op := Op.move (Operand.tmp 55), type := 4, pos := "law.go:86", after := #[{ on := 15, ground := Ground.data }, { on := 13, ground := Ground.chain }], guard := none }) (v := ?vt16) rfl (by kernel_rfl) (by kernel_rfl) (by kernel_rfl) (fun _ _ _ h => h) (Or.inl ⟨by rfl, ?ht16⟩) (by assumption) ?_
          case ht16 => (intro w hSw; (try dsimp only at hSw); go_simp; try with_reducible rfl)
          try simp only [Act.put, List.setIfInBounds_toArray, List.set_cons_zero, List.set_cons_succ]
          refine wpAnyH_take (i := 17) (oi := { dst := some 57, op := Op.move (Operand.tmp 9), type := 4, pos := "law.go:86", after := #[{ on := 16, ground := Ground.guard }], guard := some (16, false) }) (v := ?vt17) rfl (by kernel_rfl) (by kernel_rfl) (by kernel_rfl) (fun _ _ _ h => h) (Or.inl ⟨by rfl, ?ht17⟩) (by assumption) ?_
          case ht17 => (intro w hSw; (try dsimp only at hSw); go_simp; try with_reducible rfl)
          try simp only [Act.put, List.setIfInBounds_toArray, List.set_cons_zero, List.set_cons_succ]
          refine wpAnyH_take (i := 18) (oi := { dst := some 58, op := Op.fieldAddr 54 (Operand.tmp 4) 1, type := 0, pos := "law.go:86", after := #[{ on := 16, ground := Ground.guard }], guard := some (16, false) }) (v := ?vt18) rfl (by kernel_rfl) (by kernel_rfl) (by kernel_rfl) (fun _ _ _ h => h) (Or.inl ⟨by rfl, ?ht18⟩) (by assumption) ?_
          case ht18 => (intro w hSw; (try dsimp only at hSw); go_simp; try with_reducible rfl)
          try simp only [Act.put, List.setIfInBounds_toArray, List.set_cons_zero, List.set_cons_succ]
          refine wpAnyH_take (i := 19) (oi := { dst := some 59, op := Op.load 4 (Operand.tmp 58), type := 4, pos := "law.go:86", after := #[{ on := 18, ground := Ground.data }, { on := 16, ground := Ground.guard }], guard := some (16, false) }) (v := ?vt19) rfl (by kernel_rfl) (by kernel_rfl) (by kernel_rfl) (fun _ _ _ h => h) (Or.inl ⟨by rfl, ?ht19⟩) (by assumption) ?_
          case ht19 => (intro w hSw; (try dsimp only at hSw); go_simp; try with_reducible rfl)
          try simp only [Act.put, List.setIfInBounds_toArray, List.set_cons_zero, List.set_cons_succ]
          refine wpAnyH_take (i := 20) (oi := { dst := some 60, op := Op.binOp BinOp.neq 4 (Operand.tmp 57) (Operand.tmp 59) 4, type := 4, pos := "law.go:86", after := #[{ on := 17, ground := Ground.data }, { on := 19, ground := Ground.data }, { on := 16, ground := Ground.guard }], guard := some (16, false) }) (v := ?vt20) rfl (by kernel_rfl) (by kernel_rfl) (by kernel_rfl) (fun _ _ _ h => h) (Or.inl ⟨by rfl, ?ht20⟩) (by assumption) ?_
          case ht20 => (intro w hSw; (try dsimp only at hSw); go_simp; try with_reducible rfl)
          try simp only [Act.put, List.setIfInBounds_toArray, List.set_cons_zero, List.set_cons_succ]
          refine wpAnyH_take (i := 21) (oi := { dst := some 61, op := Op.pick (Operand.tmp 56) (Operand.const (Value.bool true)) (Operand.tmp 60), type := 4, pos := "law.go:86", after := #[{ on := 16, ground := Ground.data }, { on := 20, ground := Ground.data }], guard := none }) (v := ?vt21) rfl (by kernel_rfl) (by kernel_rfl) (by kernel_rfl) (fun _ _ _ h => h) (Or.inl ⟨by rfl, ?ht21⟩) (by assumption) ?_
          case ht21 => (intro w hSw; (try dsimp only at hSw); go_simp; try with_reducible rfl)
          try simp only [Act.put, List.setIfInBounds_toArray, List.set_cons_zero, List.set_cons_succ]
          refine wpAnyH_take (i := 22) (oi := { dst := some 62, op := Op.move (Operand.tmp 61), type := 4, pos := "law.go:86", after := #[{ on := 21, ground := Ground.data }, { on := 16, ground := Ground.chain }], guard := none }) (v := ?vt22) rfl (by kernel_rfl) (by kernel_rfl) (by kernel_rfl) (fun _ _ _ h => h) (Or.inl ⟨by rfl, ?ht22⟩) (by assumption) ?_
          case ht22 => (intro w hSw; (try dsimp only at hSw); go_simp; try with_reducible rfl)
          try simp only [Act.put, List.setIfInBounds_toArray, List.set_cons_zero, List.set_cons_succ]
          refine wpAnyH_take (i := 23) (oi := { dst := some 63, op := Op.move (Operand.tmp 9), type := 4, pos := "law.go:86", after := #[{ on := 22, ground := Ground.guard }], guard := some (22, false) }) (v := ?vt23) rfl (by kernel_rfl) (by kernel_rfl) (by kernel_rfl) (fun _ _ _ h => h) (Or.inl ⟨by rfl, ?ht23⟩) (by assumption) ?_
          case ht23 => (intro w hSw; (try dsimp only at hSw); go_simp; try with_reducible rfl)
          try simp only [Act.put, List.setIfInBounds_toArray, List.set_cons_zero, List.set_cons_succ]
          refine wpAnyH_take (i := 24) (oi := { dst := some 64, op := Op.move (Operand.tmp 63), type := 4, pos := "law.go:86", after := #[{ on := 23, ground := Ground.data }, { on := 22, ground := Ground.chain }, { on := 22, ground := Ground.guard }], guard := some (22, false) }) (v := ?vt24) rfl (by kernel_rfl) (by kernel_rfl) (by kernel_rfl) (fun _ _ _ h => h) (Or.inl ⟨by rfl, ?ht24⟩) (by assumption) ?_
          case ht24 => (intro w hSw; (try dsimp only at hSw); go_simp; try with_reducible rfl)
          try simp only [Act.put, List.setIfInBounds_toArray, List.set_cons_zero, List.set_cons_succ]
          refine wpAnyH_take (i := 25) (oi := { dst := some 65, op := Op.move (Operand.tmp 8), type := 3, pos := "law.go:86", after := #[{ on := 24, ground := Ground.guard }], guard := some (24, true) }) (v := ?vt25) rfl (by kernel_rfl) (by kernel_rfl) (by kernel_rfl) (fun _ _ _ h => h) (Or.inl ⟨by rfl, ?ht25⟩) (by assumption) ?_
          case ht25 => (intro w hSw; (try dsimp only at hSw); go_simp; try with_reducible rfl)
          try simp only [Act.put, List.setIfInBounds_toArray, List.set_cons_zero, List.set_cons_succ]
          refine wpAnyH_take (i := 26) (oi := { dst := some 66, op := Op.fieldAddr 54 (Operand.tmp 4) 2, type := 0, pos := "law.go:86", after := #[{ on := 24, ground := Ground.guard }], guard := some (24, true) }) (v := ?vt26) rfl (by kernel_rfl) (by kernel_rfl) (by kernel_rfl) (fun _ _ _ h => h) (Or.inl ⟨by rfl, ?ht26⟩) (by assumption) ?_
          case ht26 => (intro w hSw; (try dsimp only at hSw); go_simp; try with_reducible rfl)
          try simp only [Act.put, List.setIfInBounds_toArray, List.set_cons_zero, List.set_cons_succ]
          refine wpAnyH_take (i := 27) (oi := { dst := some 67, op := Op.load 3 (Operand.tmp 66), type := 3, pos := "law.go:86", after := #[{ on := 26, ground := Ground.data }, { on := 24, ground := Ground.guard }], guard := some (24, true) }) (v := ?vt27) rfl (by kernel_rfl) (by kernel_rfl) (by kernel_rfl) (fun _ _ _ h => h) (Or.inl ⟨by rfl, ?ht27⟩) (by assumption) ?_
          case ht27 => (intro w hSw; (try dsimp only at hSw); go_simp; try with_reducible rfl)
          try simp only [Act.put, List.setIfInBounds_toArray, List.set_cons_zero, List.set_cons_succ]
          refine wpAnyH_take (i := 28) (oi := { dst := some 68, op := Op.binOp BinOp.neq 3 (Operand.tmp 65) (Operand.tmp 67) 3, type := 4, pos := "law.go:86", after := #[{ on := 25, ground := Ground.data }, { on := 27, ground := Ground.data }, { on := 24, ground := Ground.guard }], guard := some (24, true) }) (v := ?vt28) rfl (by kernel_rfl) (by kernel_rfl) (by kernel_rfl) (fun _ _ _ h => h) (Or.inl ⟨by rfl, ?ht28⟩) (by assumption) ?_
          case ht28 => (intro w hSw; (try dsimp only at hSw); go_simp; try with_reducible rfl)
          try simp only [Act.put, List.setIfInBounds_toArray, List.set_cons_zero, List.set_cons_succ]
          refine wpAnyH_take (i := 29) (oi := { dst := some 69, op := Op.pick (Operand.tmp 64) (Operand.tmp 68) (Operand.const (Value.bool false)), type := 4, pos := "law.go:86", after := #[{ on := 24, ground := Ground.data }, { on := 28, ground := Ground.data }, { on := 22, ground := Ground.guard }], guard := some (22, false) }) (v := ?vt29) rfl (by kernel_rfl) (by kernel_rfl) (by kernel_rfl) (fun _ _ _ h => h) (Or.inl ⟨by rfl, ?ht29⟩) (by assumption) ?_
          case ht29 => (intro w hSw; (try dsimp only at hSw); go_simp; try with_reducible rfl)
          try simp only [Act.put, List.setIfInBounds_toArray, List.set_cons_zero, List.set_cons_succ]
          refine wpAnyH_take (i := 30) (oi := { dst := some 70, op := Op.pick (Operand.tmp 62) (Operand.const (Value.bool true)) (Operand.tmp 69), type := 4, pos := "law.go:86", after := #[{ on := 22, ground := Ground.data }, { on := 29, ground := Ground.data }], guard := none }) (v := ?vt30) rfl (by kernel_rfl) (by kernel_rfl) (by kernel_rfl) (fun _ _ _ h => h) (Or.inl ⟨by rfl, ?ht30⟩) (by assumption) ?_
          case ht30 => (intro w hSw; (try dsimp only at hSw); go_simp; try with_reducible rfl)
          try simp only [Act.put, List.setIfInBounds_toArray, List.set_cons_zero, List.set_cons_succ]
          refine wpAnyH_take (i := 31) (oi := { dst := some 71, op := Op.move (Operand.tmp 70), type := 4, pos := "law.go:86", after := #[{ on := 30, ground := Ground.data }, { on := 24, ground := Ground.chain }], guard := none }) (v := ?vt31) rfl (by kernel_rfl) (by kernel_rfl) (by kernel_rfl) (fun _ _ _ h => h) (Or.inl ⟨by rfl, ?ht31⟩) (by assumption) ?_
          case ht31 => (intro w hSw; (try dsimp only at hSw); go_simp; try with_reducible rfl)
          try simp only [Act.put, List.setIfInBounds_toArray, List.set_cons_zero, List.set_cons_succ]
          refine wpAnyH_take (i := 32) (oi := { dst := some 72, op := Op.move (Operand.tmp 9), type := 4, pos := "law.go:86", after := #[{ on := 31, ground := Ground.guard }], guard := some (31, false) }) (v := ?vt32) rfl (by kernel_rfl) (by kernel_rfl) (by kernel_rfl) (fun _ _ _ h => h) (Or.inl ⟨by rfl, ?ht32⟩) (by assumption) ?_
          case ht32 => (intro w hSw; (try dsimp only at hSw); go_simp; try with_reducible rfl)
          try simp only [Act.put, List.setIfInBounds_toArray, List.set_cons_zero, List.set_cons_succ]
          refine wpAnyH_take (i := 33) (oi := { dst := some 73, op := Op.unOp UnOp.not 4 (Operand.tmp 72), type := 4, pos := "law.go:86", after := #[{ on := 32, ground := Ground.data }, { on := 31, ground := Ground.guard }], guard := some (31, false) }) (v := ?vt33) rfl (by kernel_rfl) (by kernel_rfl) (by kernel_rfl) (fun _ _ _ h => h) (Or.inl ⟨by rfl, ?ht33⟩) (by assumption) ?_
          case ht33 => (intro w hSw; (try dsimp only at hSw); go_simp; try with_reducible rfl)
          try simp only [Act.put, List.setIfInBounds_toArray, List.set_cons_zero, List.set_cons_succ]
          refine wpAnyH_take (i := 34) (oi := { dst := some 74, op := Op.move (Operand.tmp 73), type := 4, pos := "law.go:86", after := #[{ on := 33, ground := Ground.data }, { on := 31, ground := Ground.chain }, { on := 31, ground := Ground.guard }], guard := some (31, false) }) (v := ?vt34) rfl (by kernel_rfl) (by kernel_rfl) (by kernel_rfl) (fun _ _ _ h => h) (Or.inl ⟨by rfl, ?ht34⟩) (by assumption) ?_
          case ht34 => (intro w hSw; (try dsimp only at hSw); go_simp; try with_reducible rfl)
          try simp only [Act.put, List.setIfInBounds_toArray, List.set_cons_zero, List.set_cons_succ]
          refine wpAnyH_take (i := 35) (oi := { dst := some 75, op := Op.move (Operand.tmp 8), type := 3, pos := "law.go:86", after := #[{ on := 34, ground := Ground.guard }], guard := some (34, true) }) (v := undef) rfl (by kernel_rfl) (by kernel_rfl) (by kernel_rfl) (fun _ _ _ h => h) (Or.inr ⟨by rfl, rfl⟩) (by assumption) ?_
          try simp only [Act.put, List.setIfInBounds_toArray, List.set_cons_zero, List.set_cons_succ]
          refine wpAnyH_take (i := 36) (oi := { dst := some 76, op := Op.binOp BinOp.neq 3 (Operand.tmp 75) (Operand.const (Value.int IntKind.i64 0)) 3, type := 4, pos := "law.go:86", after := #[{ on := 35, ground := Ground.data }, { on := 34, ground := Ground.guard }], guard := some (34, true) }) (v := undef) rfl (by kernel_rfl) (by kernel_rfl) (by kernel_rfl) (fun _ _ _ h => h) (Or.inr ⟨by rfl, rfl⟩) (by assumption) ?_
          try simp only [Act.put, List.setIfInBounds_toArray, List.set_cons_zero, List.set_cons_succ]
          refine wpAnyH_take (i := 37) (oi := { dst := some 77, op := Op.pick (Operand.tmp 74) (Operand.tmp 76) (Operand.const (Value.bool false)), type := 4, pos := "law.go:86", after := #[{ on := 34, ground := Ground.data }, { on := 36, ground := Ground.data }, { on := 31, ground := Ground.guard }], guard := some (31, false) }) (v := ?vt37) rfl (by kernel_rfl) (by kernel_rfl) (by kernel_rfl) (fun _ _ _ h => h) (Or.inl ⟨by rfl, ?ht37⟩) (by assumption) ?_
          case ht37 => (intro w hSw; (try dsimp only at hSw); go_simp; try with_reducible rfl)
          try simp only [Act.put, List.setIfInBounds_toArray, List.set_cons_zero, List.set_cons_succ]
          refine wpAnyH_take (i := 38) (oi := { dst := some 78, op := Op.pick (Operand.tmp 71) (Operand.const (Value.bool true)) (Operand.tmp 77), type := 4, pos := "law.go:86", after := #[{ on := 31, ground := Ground.data }, { on := 37, ground := Ground.data }], guard := none }) (v := ?vt38) rfl (by kernel_rfl) (by kernel_rfl) (by kernel_rfl) (fun _ _ _ h => h) (Or.inl ⟨by rfl, ?ht38⟩) (by assumption) ?_
          case ht38 => (intro w hSw; (try dsimp only at hSw); go_simp; try with_reducible rfl)
          try simp only [Act.put, List.setIfInBounds_toArray, List.set_cons_zero, List.set_cons_succ]
          refine wpAnyH_take (i := 39) (oi := { dst := some 79, op := Op.move (Operand.tmp 78), type := 4, pos := "law.go:86", after := #[{ on := 38, ground := Ground.data }, { on := 34, ground := Ground.chain }], guard := none }) (v := ?vt39) rfl (by kernel_rfl) (by kernel_rfl) (by kernel_rfl) (fun _ _ _ h => h) (Or.inl ⟨by rfl, ?ht39⟩) (by assumption) ?_
          case ht39 => (intro w hSw; (try dsimp only at hSw); go_simp; try with_reducible rfl)
          try simp only [Act.put, List.setIfInBounds_toArray, List.set_cons_zero, List.set_cons_succ]
          refine wpAnyH_take (i := 40) (oi := { dst := some 80, op := Op.move (Operand.tmp 3), type := 47, pos := "law.go:86", after := #[{ on := 39, ground := Ground.guard }], guard := some (39, false) }) (v := ?vt40) rfl (by kernel_rfl) (by kernel_rfl) (by kernel_rfl) (fun _ _ _ h => h) (Or.inl ⟨by rfl, ?ht40⟩) (by assumption) ?_
          case ht40 => (intro w hSw; (try dsimp only at hSw); go_simp; try with_reducible rfl)
          try simp only [Act.put, List.setIfInBounds_toArray, List.set_cons_zero, List.set_cons_succ]
          refine wpAnyH_take (i := 42) (oi := { dst := some 82, op := Op.fieldAddr 54 (Operand.tmp 4) 3, type := 0, pos := "law.go:86", after := #[{ on := 39, ground := Ground.guard }], guard := some (39, false) }) (v := ?vt42) rfl (by kernel_rfl) (by kernel_rfl) (by kernel_rfl) (fun _ _ _ h => h) (Or.inl ⟨by rfl, ?ht42⟩) (by assumption) ?_
          case ht42 => (intro w hSw; (try dsimp only at hSw); go_simp; try with_reducible rfl)
          try simp only [Act.put, List.setIfInBounds_toArray, List.set_cons_zero, List.set_cons_succ]
          refine wpAnyH_take (i := 43) (oi := { dst := some 83, op := Op.load 3 (Operand.tmp 82), type := 3, pos := "law.go:86", after := #[{ on := 42, ground := Ground.data }, { on := 39, ground := Ground.guard }], guard := some (39, false) }) (v := ?vt43) rfl (by kernel_rfl) (by kernel_rfl) (by kernel_rfl) (fun _ _ _ h => h) (Or.inl ⟨by rfl, ?ht43⟩) (by assumption) ?_
          case ht43 => (intro w hSw; (try dsimp only at hSw); go_simp; try with_reducible rfl)
          try simp only [Act.put, List.setIfInBounds_toArray, List.set_cons_zero, List.set_cons_succ]
          refine wpAnyH_ready (rs := [41]) (by kernel_rfl) (by simp) ?_
          refine AllReadyH.cons (o := { dst := some 81, op := Op.call { callee := Callee.value (Operand.func 44), args := #[Operand.tmp 80], argTypes := #[47] }, type := 3, pos := "law.go:86", after := #[{ on := 40, ground := Ground.data }, { on := 39, ground := Ground.chain }, { on := 39, ground := Ground.guard }], guard := some (39, false) }) rfl (fun K hK => ?_) AllReadyH.nil
          go_simp
          refine (CST.out _ ((HR8d.out.below HB9.out).quiet HQ10.out)).mono ?_; rintro e w' ⟨rfl, rfl⟩; go_simp
          refine hK.out _ _ ?hSt41 (fun hHeld => ?_)
          case hSt41 => (first | assumption | exact HX10.out.sx | exact HX9.out.sx | exact HX8d.out.sx)
          clear hK K
          try simp only [Act.put, List.setIfInBounds_toArray, List.set_cons_zero, List.set_cons_succ]
          refine wpAnyH_take (i := 44) (oi := { dst := some 84, op := Op.binOp BinOp.neq 3 (Operand.tmp 81) (Operand.tmp 83) 3, type := 4, pos := "law.go:86", after := #[{ on := 41, ground := Ground.data }, { on := 43, ground := Ground.data }, { on := 39, ground := Ground.guard }], guard := some (39, false) }) (v := ?vt44) rfl (by kernel_rfl) (by kernel_rfl) (by kernel_rfl) (fun _ _ _ h => h) (Or.inl ⟨by rfl, ?ht44⟩) (by assumption) ?_
          case ht44 => (intro w hSw; (try dsimp only at hSw); go_simp; try with_reducible rfl)
          try simp only [Act.put, List.setIfInBounds_toArray, List.set_cons_zero, List.set_cons_succ]
          refine wpAnyH_take (i := 45) (oi := { dst := some 85, op := Op.pick (Operand.tmp 79) (Operand.const (Value.bool true)) (Operand.tmp 84), type := 4, pos := "law.go:86", after := #[{ on := 39, ground := Ground.data }, { on := 44, ground := Ground.data }], guard := none }) (v := ?vt45) rfl (by kernel_rfl) (by kernel_rfl) (by kernel_rfl) (fun _ _ _ h => h) (Or.inl ⟨by rfl, ?ht45⟩) (by assumption) ?_
          case ht45 => (intro w hSw; (try dsimp only at hSw); go_simp; try with_reducible rfl)
          try simp only [Act.put, List.setIfInBounds_toArray, List.set_cons_zero, List.set_cons_succ]
          refine wpAnyH_done (by kernel_rfl) ?_ _
          have HR11 := hid ((HR8d.out.below HB9.out).quiet HQ10.out)
          have HS11 := hid ((HS8d.out.below HB9.out).only (OnlyO.quiet HQ10.out))
          have HB11 := hid ((HB8d.out.trans (HB9.out.mono HB8d.out.size)).trans (HQ10.out.below _))
          clear HX9 HO9 HB9 HQ10 HX8d HR8d HV8d HS8d HB8d CLN CLS CST HNX q0 q1 q2 q3
          go_wp2
          go_roundw
          case rel => exact ⟨k + 1, ys, _, _, st', _, by omega, by go_num, HR11, HS11, HA5, HX10, HST6, HB11⟩
          case measure => simp [intOf]; omega
      · go_wp2
        go_ret
        exact ⟨rfl, HB.out⟩
end Go.Proofs.Ytciilbpchejpcaa.ringPlays
