/- What timer.Timers' methods that only read answer. -/
import Derived.Test.YtlppnkemoomllaaTim
import Derived.Deep.QuietTactic
import Derived.BigQuiet
namespace Go.Proofs.Ytlppnkemoomllaa
set_option linter.unusedVariables false
set_option linter.unusedSimpArgs false
open Go.RowKit
variable {Z : Nat → Prop} {w w' : World} {t hb mb n c : Nat} {hp : Nat → Nat} {v : Nat → Value} {es : Nat → List En} {inn : Int → Bool} {k ad : Nat}

set_option maxHeartbeats 4000000 in
theorem tlen (h : Tq Z w t hb mb n c hp v es inn k ad) : Calls Try.prog 14 #[.pointer (some ⟨t, 0, none⟩)] w fun e w' => e = .returned (.int .i64 k) ∧ w' = w := by
  have c1 : w.cell? ⟨t, 1, none⟩ = some (.map (some mb)) := cell_ent h.box rfl
  have L := h.len
  clear h
  go_enter Try.func14, Try.ntmps14
  go_wp2
  go_ret
  exact ⟨rfl, rfl⟩
set_option maxHeartbeats 4000000 in
theorem thas (h : Tq Z w t hb mb n c hp v es inn k ad) (a : Int) : Calls Try.prog 15 #[.pointer (some ⟨t, 0, none⟩), .int .i64 a] w fun e w' => e = .returned (.bool (inn a)) ∧ w' = w := by
  have c1 : w.cell? ⟨t, 1, none⟩ = some (.map (some mb)) := cell_ent h.box rfl
  have L := h.look a
  clear h
  go_enter Try.func15, Try.ntmps15
  go_wp2
  go_ret
  exact ⟨rfl, rfl⟩
/-- While the first one is looked for. -/
structure Fi (w : World) (L0 L1 : Nat) (x1 x2 x3 : Int) (wr : World) : Prop where
  bl : Below w.heap.size w wr
  r0 : wr.heap[L0]? = some (.cells #[.int .i64 0, .int .u64 0, .int .i64 0] 37 (0, 0))
  r1 : wr.heap[L1]? = some (.cells #[.int .i64 x1, .int .u64 x2, .int .i64 x3] 37 (0, 0))
  ge : w.heap.size ≤ L0 ∧ w.heap.size ≤ L1 ∧ L0 ≠ L1
theorem Fi.below {L0 L1 : Nat} {x1 x2 x3 : Int} {wr : World} (h : Fi w L0 L1 x1 x2 x3 wr) (hb' : Below wr.heap.size wr w') : Fi w L0 L1 x1 x2 x3 w' :=
  ⟨h.bl.trans (hb'.mono h.bl.size), (hb'.block _ (by obtain ⟨hl, _⟩ := Array.getElem?_eq_some_iff.1 h.r0; exact hl)).trans h.r0, (hb'.block _ (by obtain ⟨hl, _⟩ := Array.getElem?_eq_some_iff.1 h.r1; exact hl)).trans h.r1, h.ge⟩
theorem Fi.set {L0 L1 : Nat} {x1 x2 x3 : Int} {wr : World} (h : Fi w L0 L1 x1 x2 x3 wr) (y1 y2 y3 : Int) : Fi w L0 L1 y1 y2 y3 (((wr.setCell ⟨L1, 0, none⟩ (.int .i64 y1)).setCell ⟨L1, 1, none⟩ (.int .u64 y2)).setCell ⟨L1, 2, none⟩ (.int .i64 y3)) := by
  obtain ⟨o, b⟩ := (set3 h.r1 (.int .i64 y1) (.int .u64 y2) (.int .i64 y3)).out
  obtain ⟨g0, g1, g2⟩ := h.ge
  exact ⟨h.bl.trans (o.below g1 g1 h.bl.size), (o.block L0 (by obtain ⟨hl, _⟩ := Array.getElem?_eq_some_iff.1 h.r0; exact hl) g2 g2).trans h.r0, b, h.ge⟩
def Fsp (n : Nat) (es : Nat → List En) (m : Nat) (x1 x2 x3 : Int) : Prop := m < n ∧ 0 < (es m).length ∧ enAt (es m) 0 = (x1, x2, x3) ∧ ∀ j, j < n → 0 < (es j).length → leE (x1, x2, x3) (enAt (es j) 0)
theorem fsp_empty {q : Nat} {es : Nat → List En} (h : ∀ j, j < q → es j = []) (hn : es q = []) : ∀ j, j < q + 1 → es j = [] := fun j hj => by
  rcases Nat.lt_or_ge j q with h1 | h1
  · exact h j h1
  · rw [show j = q by omega]; exact hn
theorem Fsp.skip {q m : Nat} {es : Nat → List En} {x1 x2 x3 : Int} (h : Fsp q es m x1 x2 x3) (hn : es q = []) : Fsp (q + 1) es m x1 x2 x3 :=
  ⟨by have := h.1; omega, h.2.1, h.2.2.1, fun j hj hl => by
    rcases Nat.lt_or_ge j q with h1 | h1
    · exact h.2.2.2 j h1 hl
    · rw [show j = q by omega, hn] at hl; simp at hl⟩
theorem fsp_first {q : Nat} {es : Nat → List En} {y1 y2 y3 : Int} (h : ∀ j, j < q → es j = []) (hp : 0 < (es q).length) (hy : enAt (es q) 0 = (y1, y2, y3)) : Fsp (q + 1) es q y1 y2 y3 :=
  ⟨by omega, hp, hy, fun j hj hl => by
    rcases Nat.lt_or_ge j q with h1 | h1
    · rw [h j h1] at hl; simp at hl
    · rw [show j = q by omega, hy]; exact leE_refl _⟩
theorem Fsp.stay {q m : Nat} {es : Nat → List En} {x1 x2 x3 y1 y2 y3 : Int} (h : Fsp q es m x1 x2 x3) (hy : enAt (es q) 0 = (y1, y2, y3)) (hr : aheadE (y1, y2, y3) (x1, x2, x3) = false) : Fsp (q + 1) es m x1 x2 x3 :=
  ⟨by have := h.1; omega, h.2.1, h.2.2.1, fun j hj hl => by
    rcases Nat.lt_or_ge j q with h1 | h1
    · exact h.2.2.2 j h1 hl
    · rw [show j = q by omega, hy]; exact hr⟩
theorem Fsp.next {q m : Nat} {es : Nat → List En} {x1 x2 x3 y1 y2 y3 : Int} (h : Fsp q es m x1 x2 x3) (hp : 0 < (es q).length) (hy : enAt (es q) 0 = (y1, y2, y3)) (hr : aheadE (y1, y2, y3) (x1, x2, x3) = true) : Fsp (q + 1) es q y1 y2 y3 :=
  ⟨by omega, hp, hy, fun j hj hl => by
    rcases Nat.lt_or_ge j q with h1 | h1
    · exact leE_trans (leE_of hr) (h.2.2.2 j h1 hl)
    · rw [show j = q by omega, hy]; exact leE_refl _⟩
def FirPost (n : Nat) (hp : Nat → Nat) (es : Nat → List En) (w : World) (e : Ending) (w' : World) : Prop :=
  (e = .returned (.tuple #[.pointer none, .agg #[.int .i64 0, .int .u64 0, .int .i64 0], .bool false]) ∧ (∀ j, j < n → es j = []) ∧ Below w.heap.size w w') ∨
  ∃ m x1 x2 x3, Fsp n es m x1 x2 x3 ∧ e = .returned (.tuple #[.pointer (some ⟨hp m, 0, none⟩), .agg #[.int .i64 x1, .int .u64 x2, .int .i64 x3], .bool true]) ∧ Below w.heap.size w w'
theorem res3q (w6 : World) (s : Nat) {y1 y2 y3 : Value} {t : TypeId} (h : w6.heap[s]? = some (.cells #[y1, y2, y3] t (0, 0))) (x1 x2 x3 : Int) :
    (w6.setCell ⟨s, 0, none⟩ (.int .i64 x1)).cell? ⟨s, 0, none⟩ = some (.int .i64 x1) ∧
    ((w6.setCell ⟨s, 0, none⟩ (.int .i64 x1)).setCell ⟨s, 1, none⟩ (.int .u64 x2)).cell? ⟨s, 1, none⟩ = some (.int .u64 x2) ∧
    (((w6.setCell ⟨s, 0, none⟩ (.int .i64 x1)).setCell ⟨s, 1, none⟩ (.int .u64 x2)).setCell ⟨s, 2, none⟩ (.int .i64 x3)).cell? ⟨s, 2, none⟩ = some (.int .i64 x3) := by
  simp [World.cell?, World.setCell, Array.getElem?_modify, h]
set_option maxRecDepth 100000 in
set_option maxHeartbeats 16000000 in
theorem tfirst (h : Tq Z w t hb mb n c hp v es inn k ad) : Calls Try.prog 20 #[.pointer (some ⟨t, 0, none⟩)] w (FirPost n hp es w) := by
  have TQ := hid h
  have S0 : Hid (Fi w w.heap.size (w.heap.size + 1) 0 0 0 ((w.alloc (.cells #[.int .i64 0, .int .u64 0, .int .i64 0] 37)).alloc (.cells #[.int .i64 0, .int .u64 0, .int .i64 0] 37))) := by
    have hN := Deep.blk_alloc_new (w.alloc (.cells #[.int .i64 0, .int .u64 0, .int .i64 0] 37)) (.cells #[.int .i64 0, .int .u64 0, .int .i64 0] 37)
    rw [World.size_alloc] at hN
    exact ⟨(bl_al w _).trans ((bl_al _ _).mono (by simp)), (Below.heap_alloc _ _ _ (by simp)).trans (Deep.blk_alloc_new _ _), hN, by omega, by omega, by omega⟩
  have c0 : ((w.alloc (.cells #[.int .i64 0, .int .u64 0, .int .i64 0] 37)).alloc (.cells #[.int .i64 0, .int .u64 0, .int .i64 0] 37)).cell? ⟨t, 0, none⟩ = some (.slice (some ⟨hb, 0, none⟩) n c) := cell_ent (h.below S0.out.bl).box rfl
  have hcc := h.hc
  unfold maxLen at hcc
  clear h
  go_enter Try.func20, Try.ntmps20
  go_wp2_with fail
  clear c0
  obtain ⟨L0, hL0⟩ : ∃ x, x = w.heap.size := ⟨_, rfl⟩
  obtain ⟨L1, hL1⟩ : ∃ x, x = w.heap.size + 1 := ⟨_, rfl⟩
  have HL := hid (And.intro hL0 hL1)
  rw [← hL1, ← hL0] at S0
  rw [← hL1, ← hL0]
  clear hL0 hL1
  go_loopw [5, 16] (fun fv i wr => ∃ (q : Nat), q ≤ n ∧ i = .int .i64 q ∧ ((fv = .pointer none ∧ Hid (∀ j, j < q → es j = []) ∧ Hid (Fi w L0 L1 0 0 0 wr)) ∨
      ∃ (a m : Nat) (x1 x2 x3 : Int), fv = .pointer (some ⟨a, 0, none⟩) ∧ Hid (a = hp m) ∧ Hid (Fsp q es m x1 x2 x3) ∧ Hid (Fi w L0 L1 x1 x2 x3 wr)))
    (fun _ i _ => n - (intOf i).toNat)
  case atStart => exact ⟨0, by omega, rfl, .inl ⟨rfl, hid (fun j hj => by omega), S0⟩⟩
  case round =>
    clear S0
    obtain ⟨q, hq, rfl, hst⟩ := hrel
    by_cases hlt : q < n
    · rcases hst with ⟨rfl, HE, F⟩ | ⟨a, m, x1, x2, x3, rfl, HA, HS, F⟩
      · have TW := hid (TQ.out.below F.out.bl)
        have r0 := TW.out.row.2 q hlt
        have HH := hid (TW.out.he q hlt)
        obtain ⟨a2, ha2⟩ : ∃ a, a = hp q := ⟨_, rfl⟩
        have HA2 := hid ha2
        rw [← ha2] at r0 HH
        clear ha2
        rcases List.eq_nil_or_concat (es q) with hnil | ⟨_, _, hcon⟩
        · have FN := hid (first_none wr 0 a2 (v q) (by have := HH.out; rwa [hnil] at this))
          have HN := hid hnil
          clear hnil
          go_wp2_with fail
          refine (FN.out).mono ?_
          rintro e w5 ⟨rfl, h5⟩
          have F5 := hid ((F.out.below h5).below (bl_al _ (.cells #[.int .i64 0, .int .u64 0, .int .i64 0] 37)))
          clear h5 FN F TW HH r0
          go_wp2
          go_roundw
          case rel => exact ⟨q + 1, by omega, by go_num, .inl ⟨rfl, hid (fsp_empty HE.out HN.out), F5⟩⟩
          case measure => simp [intOf]; omega
        · have hpos : 0 < (es q).length := by rw [hcon]; simp
          have HP := hid hpos
          obtain ⟨g, c2, hv2, hs⟩ := HH.out.hs hpos
          obtain ⟨y1, y2, y3, hy⟩ : ∃ y1 y2 y3, enAt (es q) 0 = (y1, y2, y3) := ⟨_, _, _, rfl⟩
          have HY := hid hy
          have FS := hid (first_some wr 0 a2 g (es q).length c2 (es q) hs hpos y1 y2 y3 hy)
          clear hv2 hs hy hpos hcon HH
          go_wp2_with fail
          refine (FS.out).mono ?_
          rintro e w5 ⟨rfl, h5⟩
          have F5 := hid ((F.out.below h5).below (bl_al _ (.cells #[.int .i64 y1, .int .u64 y2, .int .i64 y3] 37)))
          have XB := hid (Deep.blk_alloc_new w5 (.cells #[.int .i64 y1, .int .u64 y2, .int .i64 y3] 37))
          clear h5 FS F TW r0
          have F6 := F5
          have X6 := XB

          have b1 := F6.out.r1
          have l0 : (w5.alloc (.cells #[.int .i64 y1, .int .u64 y2, .int .i64 y3] 37)).drew.cell? ⟨L1, 0, none⟩ = some (.int .i64 0) := cell_ent b1 rfl
          have l0' : (w5.alloc (.cells #[.int .i64 y1, .int .u64 y2, .int .i64 y3] 37)).cell? ⟨L1, 0, none⟩ = some (.int .i64 0) := cell_ent b1 rfl
          have l1 : (w5.alloc (.cells #[.int .i64 y1, .int .u64 y2, .int .i64 y3] 37)).drew.cell? ⟨L1, 1, none⟩ = some (.int .u64 0) := cell_ent b1 rfl
          have l1' : (w5.alloc (.cells #[.int .i64 y1, .int .u64 y2, .int .i64 y3] 37)).cell? ⟨L1, 1, none⟩ = some (.int .u64 0) := cell_ent b1 rfl
          have l2 : (w5.alloc (.cells #[.int .i64 y1, .int .u64 y2, .int .i64 y3] 37)).drew.cell? ⟨L1, 2, none⟩ = some (.int .i64 0) := cell_ent b1 rfl
          have l2' : (w5.alloc (.cells #[.int .i64 y1, .int .u64 y2, .int .i64 y3] 37)).cell? ⟨L1, 2, none⟩ = some (.int .i64 0) := cell_ent b1 rfl
          have f0 : (w5.alloc (.cells #[.int .i64 y1, .int .u64 y2, .int .i64 y3] 37)).drew.frozen? ⟨L1, 0, none⟩ = false := by have h : (w5.alloc (.cells #[.int .i64 y1, .int .u64 y2, .int .i64 y3] 37)).drew.heap[L1]? = _ := b1; simp only [World.frozen?, h]; rfl
          have f0' : (w5.alloc (.cells #[.int .i64 y1, .int .u64 y2, .int .i64 y3] 37)).frozen? ⟨L1, 0, none⟩ = false := by have h : (w5.alloc (.cells #[.int .i64 y1, .int .u64 y2, .int .i64 y3] 37)).heap[L1]? = _ := b1; simp only [World.frozen?, h]; rfl
          have f1 : (w5.alloc (.cells #[.int .i64 y1, .int .u64 y2, .int .i64 y3] 37)).drew.frozen? ⟨L1, 1, none⟩ = false := by have h : (w5.alloc (.cells #[.int .i64 y1, .int .u64 y2, .int .i64 y3] 37)).drew.heap[L1]? = _ := b1; simp only [World.frozen?, h]; rfl
          have f1' : (w5.alloc (.cells #[.int .i64 y1, .int .u64 y2, .int .i64 y3] 37)).frozen? ⟨L1, 1, none⟩ = false := by have h : (w5.alloc (.cells #[.int .i64 y1, .int .u64 y2, .int .i64 y3] 37)).heap[L1]? = _ := b1; simp only [World.frozen?, h]; rfl
          have f2 : (w5.alloc (.cells #[.int .i64 y1, .int .u64 y2, .int .i64 y3] 37)).drew.frozen? ⟨L1, 2, none⟩ = false := by have h : (w5.alloc (.cells #[.int .i64 y1, .int .u64 y2, .int .i64 y3] 37)).drew.heap[L1]? = _ := b1; simp only [World.frozen?, h]; rfl
          have f2' : (w5.alloc (.cells #[.int .i64 y1, .int .u64 y2, .int .i64 y3] 37)).frozen? ⟨L1, 2, none⟩ = false := by have h : (w5.alloc (.cells #[.int .i64 y1, .int .u64 y2, .int .i64 y3] 37)).heap[L1]? = _ := b1; simp only [World.frozen?, h]; rfl
          have e0 : (w5.alloc (.cells #[.int .i64 y1, .int .u64 y2, .int .i64 y3] 37)).drew.cell? ⟨w5.heap.size, 0, none⟩ = some (.int .i64 y1) := cell_ent X6.out rfl
          have e1 : (w5.alloc (.cells #[.int .i64 y1, .int .u64 y2, .int .i64 y3] 37)).drew.cell? ⟨w5.heap.size, 1, none⟩ = some (.int .u64 y2) := cell_ent X6.out rfl
          have e2 : (w5.alloc (.cells #[.int .i64 y1, .int .u64 y2, .int .i64 y3] 37)).drew.cell? ⟨w5.heap.size, 2, none⟩ = some (.int .i64 y3) := cell_ent X6.out rfl
          have F7 := hid ((F6.out.below (bl_drw _ _)).set y1 y2 y3)
          clear b1
          go_wp2_with fail
          go_region
          all_goals
            clear l0 l1 l2 f0 f1 f2 e0 e1 e2 l0' l1' l2' f0' f1' f2'
            go_wp2
            go_roundw
            case rel => exact ⟨q + 1, by omega, by go_num, .inr ⟨a2, q, y1, y2, y3, rfl, HA2, hid (fsp_first HE.out HP.out HY.out), F7⟩⟩
            case measure => simp [intOf]; omega
      · have TW := hid (TQ.out.below F.out.bl)
        have r0 := TW.out.row.2 q hlt
        have HH := hid (TW.out.he q hlt)
        obtain ⟨a2, ha2⟩ : ∃ a, a = hp q := ⟨_, rfl⟩
        have HA2 := hid ha2
        rw [← ha2] at r0 HH
        clear ha2
        rcases List.eq_nil_or_concat (es q) with hnil | ⟨_, _, hcon⟩
        · have FN := hid (first_none wr 0 a2 (v q) (by have := HH.out; rwa [hnil] at this))
          have HN := hid hnil
          clear hnil
          go_wp2_with fail
          refine (FN.out).mono ?_
          rintro e w5 ⟨rfl, h5⟩
          have F5 := hid ((F.out.below h5).below (bl_al _ (.cells #[.int .i64 0, .int .u64 0, .int .i64 0] 37)))
          clear h5 FN F TW HH r0
          go_wp2
          go_roundw
          case rel => exact ⟨q + 1, by omega, by go_num, .inr ⟨a, m, x1, x2, x3, rfl, HA, hid (HS.out.skip HN.out), F5⟩⟩
          case measure => simp [intOf]; omega
        · have hpos : 0 < (es q).length := by rw [hcon]; simp
          have HP := hid hpos
          obtain ⟨g, c2, hv2, hs⟩ := HH.out.hs hpos
          obtain ⟨y1, y2, y3, hy⟩ : ∃ y1 y2 y3, enAt (es q) 0 = (y1, y2, y3) := ⟨_, _, _, rfl⟩
          have HY := hid hy
          have FS := hid (first_some wr 0 a2 g (es q).length c2 (es q) hs hpos y1 y2 y3 hy)
          clear hv2 hs hy hpos hcon HH
          go_wp2_with fail
          refine (FS.out).mono ?_
          rintro e w5 ⟨rfl, h5⟩
          have F5 := hid ((F.out.below h5).below (bl_al _ (.cells #[.int .i64 y1, .int .u64 y2, .int .i64 y3] 37)))
          have XB := hid (Deep.blk_alloc_new w5 (.cells #[.int .i64 y1, .int .u64 y2, .int .i64 y3] 37))
          clear h5 FS F TW r0
          obtain ⟨r, hr⟩ : ∃ r, aheadE (y1, y2, y3) (x1, x2, x3) = r := ⟨_, rfl⟩
          have HR := hid hr
          have AH := hid (fun w => ahead_r y1 y2 y3 x1 x2 x3 r hr w)
          have p0 : (w5.alloc (.cells #[.int .i64 y1, .int .u64 y2, .int .i64 y3] 37)).cell? ⟨L1, 0, none⟩ = some (.int .i64 x1) := cell_ent F5.out.r1 rfl
          have p1 : (w5.alloc (.cells #[.int .i64 y1, .int .u64 y2, .int .i64 y3] 37)).cell? ⟨L1, 1, none⟩ = some (.int .u64 x2) := cell_ent F5.out.r1 rfl
          have p2 : (w5.alloc (.cells #[.int .i64 y1, .int .u64 y2, .int .i64 y3] 37)).cell? ⟨L1, 2, none⟩ = some (.int .i64 x3) := cell_ent F5.out.r1 rfl
          clear hr
          go_wp2_with fail
          refine (AH.out _).mono ?_
          rintro e w6 ⟨rfl, h6⟩
          have F6 := hid (F5.out.below h6)
          have X6 := hid ((h6.block w5.heap.size (by simp)).trans XB.out)
          clear h6 AH p0 p1 p2 F5 XB
          cases r
          · have FS2 := hid (HS.out.stay HY.out HR.out)
            go_wp2
            go_roundw
            case rel => exact ⟨q + 1, by omega, by go_num, .inr ⟨a, m, x1, x2, x3, rfl, HA, FS2, F6⟩⟩
            case measure => simp [intOf]; omega
          · have FS2 := hid (HS.out.next HP.out HY.out HR.out)
            have b1 := F6.out.r1
            have l0 : w6.drew.cell? ⟨L1, 0, none⟩ = some (.int .i64 x1) := cell_ent b1 rfl
            have l0' : w6.cell? ⟨L1, 0, none⟩ = some (.int .i64 x1) := cell_ent b1 rfl
            have l1 : w6.drew.cell? ⟨L1, 1, none⟩ = some (.int .u64 x2) := cell_ent b1 rfl
            have l1' : w6.cell? ⟨L1, 1, none⟩ = some (.int .u64 x2) := cell_ent b1 rfl
            have l2 : w6.drew.cell? ⟨L1, 2, none⟩ = some (.int .i64 x3) := cell_ent b1 rfl
            have l2' : w6.cell? ⟨L1, 2, none⟩ = some (.int .i64 x3) := cell_ent b1 rfl
            have f0 : w6.drew.frozen? ⟨L1, 0, none⟩ = false := by have h : w6.drew.heap[L1]? = _ := b1; simp only [World.frozen?, h]; rfl
            have f0' : w6.frozen? ⟨L1, 0, none⟩ = false := by have h : w6.heap[L1]? = _ := b1; simp only [World.frozen?, h]; rfl
            have f1 : w6.drew.frozen? ⟨L1, 1, none⟩ = false := by have h : w6.drew.heap[L1]? = _ := b1; simp only [World.frozen?, h]; rfl
            have f1' : w6.frozen? ⟨L1, 1, none⟩ = false := by have h : w6.heap[L1]? = _ := b1; simp only [World.frozen?, h]; rfl
            have f2 : w6.drew.frozen? ⟨L1, 2, none⟩ = false := by have h : w6.drew.heap[L1]? = _ := b1; simp only [World.frozen?, h]; rfl
            have f2' : w6.frozen? ⟨L1, 2, none⟩ = false := by have h : w6.heap[L1]? = _ := b1; simp only [World.frozen?, h]; rfl
            have e0 : w6.drew.cell? ⟨w5.heap.size, 0, none⟩ = some (.int .i64 y1) := cell_ent X6.out rfl
            have e1 : w6.drew.cell? ⟨w5.heap.size, 1, none⟩ = some (.int .u64 y2) := cell_ent X6.out rfl
            have e2 : w6.drew.cell? ⟨w5.heap.size, 2, none⟩ = some (.int .i64 y3) := cell_ent X6.out rfl
            have F7 := hid ((F6.out.below (bl_drw _ _)).set y1 y2 y3)
            clear b1
            go_wp2_with fail
            go_region
            all_goals
              clear l0 l1 l2 f0 f1 f2 e0 e1 e2 l0' l1' l2' f0' f1' f2'
              go_wp2
              go_roundw
              case rel => exact ⟨q + 1, by omega, by go_num, .inr ⟨a2, q, y1, y2, y3, rfl, HA2, FS2, F7⟩⟩
              case measure => simp [intOf]; omega
    · obtain rfl : q = n := by omega
      rcases hst with ⟨rfl, HE, F⟩ | ⟨a, m, x1, x2, x3, rfl, HA, HS, F⟩
      · have l0 : wr.drew.cell? ⟨L1, 0, none⟩ = some (.int .i64 0) := cell_ent F.out.r1 rfl
        have l0' : wr.cell? ⟨L1, 0, none⟩ = some (.int .i64 0) := cell_ent F.out.r1 rfl
        have l1 : wr.drew.cell? ⟨L1, 1, none⟩ = some (.int .u64 0) := cell_ent F.out.r1 rfl
        have l1' : wr.cell? ⟨L1, 1, none⟩ = some (.int .u64 0) := cell_ent F.out.r1 rfl
        have l2 : wr.drew.cell? ⟨L1, 2, none⟩ = some (.int .i64 0) := cell_ent F.out.r1 rfl
        have l2' : wr.cell? ⟨L1, 2, none⟩ = some (.int .i64 0) := cell_ent F.out.r1 rfl
        have k0 : wr.drew.cell? ⟨L0, 0, none⟩ = some (.int .i64 0) := cell_ent F.out.r0 rfl
        have k0' : wr.cell? ⟨L0, 0, none⟩ = some (.int .i64 0) := cell_ent F.out.r0 rfl
        have k1 : wr.drew.cell? ⟨L0, 1, none⟩ = some (.int .u64 0) := cell_ent F.out.r0 rfl
        have k1' : wr.cell? ⟨L0, 1, none⟩ = some (.int .u64 0) := cell_ent F.out.r0 rfl
        have k2 : wr.drew.cell? ⟨L0, 2, none⟩ = some (.int .i64 0) := cell_ent F.out.r0 rfl
        have k2' : wr.cell? ⟨L0, 2, none⟩ = some (.int .i64 0) := cell_ent F.out.r0 rfl
        have f0 : wr.drew.frozen? ⟨L0, 0, none⟩ = false := by have h : wr.drew.heap[L0]? = _ := F.out.r0; simp only [World.frozen?, h]; rfl
        have f0' : wr.frozen? ⟨L0, 0, none⟩ = false := by have h : wr.heap[L0]? = _ := F.out.r0; simp only [World.frozen?, h]; rfl
        have f1 : wr.drew.frozen? ⟨L0, 1, none⟩ = false := by have h : wr.drew.heap[L0]? = _ := F.out.r0; simp only [World.frozen?, h]; rfl
        have f1' : wr.frozen? ⟨L0, 1, none⟩ = false := by have h : wr.heap[L0]? = _ := F.out.r0; simp only [World.frozen?, h]; rfl
        have f2 : wr.drew.frozen? ⟨L0, 2, none⟩ = false := by have h : wr.drew.heap[L0]? = _ := F.out.r0; simp only [World.frozen?, h]; rfl
        have f2' : wr.frozen? ⟨L0, 2, none⟩ = false := by have h : wr.heap[L0]? = _ := F.out.r0; simp only [World.frozen?, h]; rfl
        have R3 := hid (res3q wr L0 F.out.r0 0 0 0)
        have HB := hid (show Below w.heap.size w (((wr.drew.setCell ⟨L0, 0, none⟩ (.int .i64 0)).setCell ⟨L0, 1, none⟩ (.int .u64 0)).setCell ⟨L0, 2, none⟩ (.int .i64 0)) from by
          have F9 := F.out.below (bl_drw _ _)
          exact F9.bl.trans ((set3 F9.r0 (.int .i64 0) (.int .u64 0) (.int .i64 0)).out.1.below F.out.ge.1 F.out.ge.1 F9.bl.size))
        go_wp2_with fail
        go_region
        all_goals
          clear l0 l1 l2 k0 k1 k2 f0 f1 f2 l0' l1' l2' k0' k1' k2' f0' f1' f2'
          go_wp2
          obtain ⟨r0, r1, r2⟩ := R3.out
          exact bodyPost_ret (v := .tuple #[.pointer none, .agg #[.int .i64 0, .int .u64 0, .int .i64 0], .bool false]) (by simp [results, Try.results20, go_sem, r0, r1, r2]) rfl (.inl ⟨rfl, HE.out, HB.out⟩)
      · have l0 : wr.drew.cell? ⟨L1, 0, none⟩ = some (.int .i64 x1) := cell_ent F.out.r1 rfl
        have l0' : wr.cell? ⟨L1, 0, none⟩ = some (.int .i64 x1) := cell_ent F.out.r1 rfl
        have l1 : wr.drew.cell? ⟨L1, 1, none⟩ = some (.int .u64 x2) := cell_ent F.out.r1 rfl
        have l1' : wr.cell? ⟨L1, 1, none⟩ = some (.int .u64 x2) := cell_ent F.out.r1 rfl
        have l2 : wr.drew.cell? ⟨L1, 2, none⟩ = some (.int .i64 x3) := cell_ent F.out.r1 rfl
        have l2' : wr.cell? ⟨L1, 2, none⟩ = some (.int .i64 x3) := cell_ent F.out.r1 rfl
        have k0 : wr.drew.cell? ⟨L0, 0, none⟩ = some (.int .i64 0) := cell_ent F.out.r0 rfl
        have k0' : wr.cell? ⟨L0, 0, none⟩ = some (.int .i64 0) := cell_ent F.out.r0 rfl
        have k1 : wr.drew.cell? ⟨L0, 1, none⟩ = some (.int .u64 0) := cell_ent F.out.r0 rfl
        have k1' : wr.cell? ⟨L0, 1, none⟩ = some (.int .u64 0) := cell_ent F.out.r0 rfl
        have k2 : wr.drew.cell? ⟨L0, 2, none⟩ = some (.int .i64 0) := cell_ent F.out.r0 rfl
        have k2' : wr.cell? ⟨L0, 2, none⟩ = some (.int .i64 0) := cell_ent F.out.r0 rfl
        have f0 : wr.drew.frozen? ⟨L0, 0, none⟩ = false := by have h : wr.drew.heap[L0]? = _ := F.out.r0; simp only [World.frozen?, h]; rfl
        have f0' : wr.frozen? ⟨L0, 0, none⟩ = false := by have h : wr.heap[L0]? = _ := F.out.r0; simp only [World.frozen?, h]; rfl
        have f1 : wr.drew.frozen? ⟨L0, 1, none⟩ = false := by have h : wr.drew.heap[L0]? = _ := F.out.r0; simp only [World.frozen?, h]; rfl
        have f1' : wr.frozen? ⟨L0, 1, none⟩ = false := by have h : wr.heap[L0]? = _ := F.out.r0; simp only [World.frozen?, h]; rfl
        have f2 : wr.drew.frozen? ⟨L0, 2, none⟩ = false := by have h : wr.drew.heap[L0]? = _ := F.out.r0; simp only [World.frozen?, h]; rfl
        have f2' : wr.frozen? ⟨L0, 2, none⟩ = false := by have h : wr.heap[L0]? = _ := F.out.r0; simp only [World.frozen?, h]; rfl
        have R3 := hid (res3q wr L0 F.out.r0 x1 x2 x3)
        have HB := hid (show Below w.heap.size w (((wr.drew.setCell ⟨L0, 0, none⟩ (.int .i64 x1)).setCell ⟨L0, 1, none⟩ (.int .u64 x2)).setCell ⟨L0, 2, none⟩ (.int .i64 x3)) from by
          have F9 := F.out.below (bl_drw _ _)
          exact F9.bl.trans ((set3 F9.r0 (.int .i64 x1) (.int .u64 x2) (.int .i64 x3)).out.1.below F.out.ge.1 F.out.ge.1 F9.bl.size))
        go_wp2_with fail
        go_region
        all_goals
          clear l0 l1 l2 k0 k1 k2 f0 f1 f2 l0' l1' l2' k0' k1' k2' f0' f1' f2'
          go_wp2
          obtain ⟨r0, r1, r2⟩ := R3.out
          exact bodyPost_ret (v := .tuple #[.pointer (some ⟨a, 0, none⟩), .agg #[.int .i64 x1, .int .u64 x2, .int .i64 x3], .bool true]) (by simp [results, Try.results20, go_sem, r0, r1, r2]) rfl (.inr ⟨m, x1, x2, x3, HS.out, by rw [← HA.out], HB.out⟩)
end Go.Proofs.Ytlppnkemoomllaa
