/- The walk of the statement NoteCells: the law answers true and turns nothing that was there. -/
import Derived.Test.YtdljacmagabilaaLives04
import Derived.OpenShut
import Derived.Deep.RegionWith
namespace Go.Proofs.Ytdljacmagabilaa.noteCells
open Go.RowKit
set_option linter.unusedVariables false
def F (b : Bool) : Int := if b then 1 else 0
def Ns (bs : List Bool) : List Int := bs.map F
def Cs (bs : List Bool) : Obj := .cells (bs.map Value.bool).toArray 82 (0, 0)
theorem Ns_set (bs : List Bool) (i : Nat) (b : Bool) (x : Int) (h : x = F b) : (Ns bs).set i x = Ns (bs.set i b) := by
  subst h; simp [Ns, List.map_set]
theorem Ns_getD (bs : List Bool) (i : Nat) (h : i < bs.length) : (Ns bs).getD i 0 = F (bs.getD i false) := by
  simp [Ns, h]
theorem Cs_cell {w : World} {p : Nat} {bs : List Bool} (h : w.heap[p]? = some (Cs bs)) (i : Nat) (hi : i < bs.length) : w.cell? ⟨p, i, none⟩ = some (.bool (bs.getD i false)) :=
  cell_of_blk h (by simp [hi])
theorem Cs_free {w : World} {p : Nat} {bs : List Bool} (h : w.heap[p]? = some (Cs bs)) (i : Nat) : w.frozen? ⟨p, i, none⟩ = false := free_of_blk h
theorem Cs_set {w : World} {p : Nat} {bs : List Bool} (h : w.heap[p]? = some (Cs bs)) (i : Nat) (b : Bool) : (w.setCell ⟨p, i, none⟩ (.bool b)).heap[p]? = some (Cs (bs.set i b)) := by
  simp [World.setCell, Array.getElem?_modify, h, Cs, List.map_set]

set_option maxHeartbeats 8000000 in
theorem walk (a0 : Option Addr) (len0 cap0 : Nat) (z0 : List Int) (w : World) (w0 : IsRow .u8 w a0 len0 cap0 z0) :
    Calls Try.prog 16 #[.slice a0 len0 cap0] w fun e w' => e = .returned (.bool true) ∧ Below w.heap.size w w' := by
  by_cases hlen : (20 : Int) < len0
  · go_enter Try.func16, Try.ntmps16
    go_wp2_with fail
    refine (lives4 _).mono ?_
    rintro e w2 ⟨rfl, hb1⟩
    go_wp2_with fail
    refine (lives4 _).mono ?_
    rintro e w3 ⟨rfl, hb2⟩
    go_wp2
    go_ret
    exact ⟨rfl, hb1.trans (hb2.mono hb1.size)⟩
  · have hlen' : len0 ≤ 20 := by omega
    have W0 := hid w0
    clear w0
    go_enter Try.func16, Try.ntmps16
    go_wp2_with fail
    refine (lives4 _).mono ?_
    rintro e w2 ⟨rfl, hb1⟩
    go_wp2_with fail
    refine (new_ex 4 4 rfl _).mono ?_
    rintro e w3 ⟨b, g, rfl, hm, hb, hg, hb3⟩
    have hs1 := hb1.size
    have hs3 := hb3.size
    have sb := hm.sb
    have sg := hm.sg
    have hbl : Below w.heap.size w w3 := hb1.trans (hb3.mono hs1)
    have n0 : (w3.alloc (Cs [false, false, false, false])).heap[w3.heap.size]? = some (Cs [false, false, false, false]) := Deep.blk_alloc_new _ _
    have N0 := hid n0
    clear n0
    go_wp2_with fail
    go_loopw [21] (fun i wr => ∃ (k c : Nat) (bs : List Bool), k ≤ len0 ∧ i = .int .i64 k ∧ Mem wr b g (Ns bs) c ∧ c ≤ 5 * k ∧ bs.length = 4 ∧ Hid (wr.heap[w3.heap.size]? = some (Cs bs)) ∧ Below w.heap.size w wr)
      (fun i _ => len0 - (intOf i).toNat)
    case atStart => exact ⟨0, 0, [false, false, false, false], by omega, rfl, hm.alloc _, by omega, rfl, N0, hbl.alloc (by omega) _⟩
    case round =>
      obtain ⟨k, c, bs, hk, rfl, hmr, hc, hbl4, hn, hbr⟩ := hrel
      have hsr := hbr.size
      have HBL := hid hbl4
      clear hbl4
      by_cases hlt : k < len0
      · obtain ⟨bx, off, rfl, hzl, hwf, hcell⟩ := W0.out.open.resolve_left (by omega)
        have hx := hcell _ hbr k hlt
        have hr8 := range_u8 hwf k
        obtain ⟨x, hxe⟩ : ∃ x, x = z0.getD k 0 := ⟨_, rfl⟩
        rw [← hxe] at hx
        rw [← List.getD_eq_getElem?_getD, ← hxe] at hr8
        clear hxe hcell hwf
        have x0 : 0 ≤ x := hr8.1
        have x1 : x ≤ 255 := hr8.2
        clear hr8
        have hj : (x % 4).toNat < bs.length := by have := HBL.out; omega
        have q0 := Cs_cell hn.out _ hj
        have f0 := Cs_free hn.out (x % 4).toNat
        have g0 := Ns_getD _ _ hj
        have i0 : 0 ≤ x % 4 := by omega
        have i1 : x % 4 < ((Ns bs).length : Int) := by simp [Ns]; omega
        have I1 := hid i1
        clear i1
        obtain ⟨r, hr⟩ : ∃ r, r = bs.getD (x % 4).toNat false := ⟨_, rfl⟩
        rw [← hr] at q0 g0
        have HR := hid hr
        have G0 := hid g0
        clear hr g0
        by_cases hw : x % 2 ≤ 0 ∨ 200 < x
        · have ht : ((x % 2 == 0) = true) ∨ ((x % 2 == 0) = false ∧ 200 < x) := by
            by_cases h : x % 2 ≤ 0
            · exact .inl (beq_iff_eq.2 (by omega))
            · exact .inr ⟨beq_eq_false_iff_ne.2 (by omega), by omega⟩
          clear hw
          rcases ht with ht | ⟨ht, ht2⟩
          all_goals
            rcases r with _ | _
            · have G1 : Hid ((Ns bs).getD (x % 4).toNat 0 = 0) := G0.out
              go_wp2_with fail
              go_region_with (go_at_call 40; (with_reducible refine (wake_yes b g _ _ (x % 4) _ (Mem.drew hmr) (by omega) i0 I1.out G1.out).mono ?_); rintro e w5 ⟨rfl, hm5, ho5⟩; have n5 := keep_drew ho5 hn.out (by omega) (by omega); have q5 := Cs_cell n5 _ hj; have f5 := Cs_free n5 (x % 4).toNat; rw [← HR.out] at q5)
              all_goals
                go_wp2_with fail
                go_loopw [56] (fun i wr => ∃ (k2 c2 : Nat), k2 ≤ 4 ∧ i = .int .i64 k2 ∧ Mem wr b g (Ns (bs.set (x % 4).toNat true)) c2 ∧ c2 ≤ 5 * k + 1 + k2 ∧ Hid (wr.heap[w3.heap.size]? = some (Cs (bs.set (x % 4).toNat true))) ∧ Below w.heap.size w wr)
                  (fun i _ => 4 - (intOf i).toNat)
                case atStart => exact ⟨0, c + 1, by omega, rfl, by rw [← Ns_set bs _ true 1 rfl]; exact hm5.setOther (by omega) (by omega), by omega, Cs_set n5 _ true, (hbr.trans ((only_drew ho5).below (by omega) (by omega) (by omega))).setCell (by simp; omega) _⟩
                case round =>
                  obtain ⟨k2, c2, hk2, rfl, hmr2, hc2, hn2, hbr2⟩ := hrel
                  have hsr2 := hbr2.size
                  by_cases hlt2 : k2 < 4
                  · have hk2' : k2 < (bs.set (x % 4).toNat true).length := by have := HBL.out; simp; omega
                    have q2 := Cs_cell hn2.out k2 hk2'
                    have g2 := Ns_getD _ k2 hk2'
                    have i2 : (k2 : Int) < ((Ns (bs.set (x % 4).toNat true)).length : Int) := by have := HBL.out; simp [Ns]; omega
                    have i3 : (0 : Int) ≤ (k2 : Int) := by omega
                    obtain ⟨q, hq⟩ : ∃ q, q = (bs.set (x % 4).toNat true).getD k2 false := ⟨_, rfl⟩
                    rw [← hq] at q2 g2
                    have hF : (F q == 1) = q := by cases q <;> rfl
                    have HF := hid hF
                    have HQ := hid hq
                    have G2 : Hid ((Ns (bs.set (x % 4).toNat true)).getD (k2 : Int).toNat 0 = F q) := g2
                    have I2 := hid i2
                    clear hq g2 hF i2
                    go_wp2_with fail
                    go_region_with (go_at_call 43; (with_reducible refine (is_in b g _ _ k2 (F q) _ (Mem.drew hmr2) (by omega) i3 I2.out G2.out q HF.out).mono ?_); rintro e w8 ⟨rfl, hm8, ho8⟩; have n8 := keep_drew ho8 hn2.out (by omega) (by omega); have q8 := Cs_cell n8 k2 hk2'; rw [← HQ.out] at q8)
                    all_goals
                      go_wp2
                      go_roundw
                      case rel => exact ⟨k2 + 1, c2 + 1, by omega, by go_num, hm8, by omega, n8, hbr2.trans ((only_drew ho8).below (by omega) (by omega) (by omega))⟩
                      case measure => simp [intOf]; omega
                  · obtain rfl : k2 = 4 := by omega
                    go_wp2
                    go_roundw
                    case rel => exact ⟨k + 1, c2, _, by omega, by go_num, hmr2, by omega, by have := HBL.out; simp; omega, hn2, hbr2⟩
                    case measure => simp [intOf]; omega
            · have G1 : Hid ((Ns bs).getD (x % 4).toNat 0 ≠ 0) := hid (by have := G0.out; rw [this]; simp [F])
              have hbs := set_same HR.out hj
              have HBS := hid hbs
              clear hbs
              go_wp2_with fail
              go_region_with (go_at_call 40; (with_reducible refine (wake_no b g _ _ (x % 4) _ (Mem.drew hmr) (by omega) i0 I1.out G1.out).mono ?_); rintro e w5 ⟨rfl, hm5, ho5⟩; have n5 := keep_drew ho5 hn.out (by omega) (by omega); have q5 := Cs_cell n5 _ hj; have f5 := Cs_free n5 (x % 4).toNat; rw [← HR.out] at q5)
              all_goals
                go_wp2_with fail
                go_loopw [56] (fun i wr => ∃ (k2 c2 : Nat), k2 ≤ 4 ∧ i = .int .i64 k2 ∧ Mem wr b g (Ns (bs.set (x % 4).toNat true)) c2 ∧ c2 ≤ 5 * k + 1 + k2 ∧ Hid (wr.heap[w3.heap.size]? = some (Cs (bs.set (x % 4).toNat true))) ∧ Below w.heap.size w wr)
                  (fun i _ => 4 - (intOf i).toNat)
                case atStart => exact ⟨0, c + 1, by omega, rfl, by rw [HBS.out]; exact hm5.setOther (by omega) (by omega), by omega, Cs_set n5 _ true, (hbr.trans ((only_drew ho5).below (by omega) (by omega) (by omega))).setCell (by simp; omega) _⟩
                case round =>
                  obtain ⟨k2, c2, hk2, rfl, hmr2, hc2, hn2, hbr2⟩ := hrel
                  have hsr2 := hbr2.size
                  by_cases hlt2 : k2 < 4
                  · have hk2' : k2 < (bs.set (x % 4).toNat true).length := by have := HBL.out; simp; omega
                    have q2 := Cs_cell hn2.out k2 hk2'
                    have g2 := Ns_getD _ k2 hk2'
                    have i2 : (k2 : Int) < ((Ns (bs.set (x % 4).toNat true)).length : Int) := by have := HBL.out; simp [Ns]; omega
                    have i3 : (0 : Int) ≤ (k2 : Int) := by omega
                    obtain ⟨q, hq⟩ : ∃ q, q = (bs.set (x % 4).toNat true).getD k2 false := ⟨_, rfl⟩
                    rw [← hq] at q2 g2
                    have hF : (F q == 1) = q := by cases q <;> rfl
                    have HF := hid hF
                    have HQ := hid hq
                    have G2 : Hid ((Ns (bs.set (x % 4).toNat true)).getD (k2 : Int).toNat 0 = F q) := g2
                    have I2 := hid i2
                    clear hq g2 hF i2
                    go_wp2_with fail
                    go_region_with (go_at_call 43; (with_reducible refine (is_in b g _ _ k2 (F q) _ (Mem.drew hmr2) (by omega) i3 I2.out G2.out q HF.out).mono ?_); rintro e w8 ⟨rfl, hm8, ho8⟩; have n8 := keep_drew ho8 hn2.out (by omega) (by omega); have q8 := Cs_cell n8 k2 hk2'; rw [← HQ.out] at q8)
                    all_goals
                      go_wp2
                      go_roundw
                      case rel => exact ⟨k2 + 1, c2 + 1, by omega, by go_num, hm8, by omega, n8, hbr2.trans ((only_drew ho8).below (by omega) (by omega) (by omega))⟩
                      case measure => simp [intOf]; omega
                  · obtain rfl : k2 = 4 := by omega
                    go_wp2
                    go_roundw
                    case rel => exact ⟨k + 1, c2, _, by omega, by go_num, hmr2, by omega, by have := HBL.out; simp; omega, hn2, hbr2⟩
                    case measure => simp [intOf]; omega
        · have t1 : (x % 2 == 0) = false := beq_eq_false_iff_ne.2 (by omega)
          have t2 : ¬ 200 < x := by omega
          clear hw
          rcases r with _ | _
          · have G1 : Hid ((Ns bs).getD (x % 4).toNat 0 ≠ 1) := hid (by have := G0.out; rw [this]; simp [F])
            have hbs := set_same HR.out hj
            have HBS := hid hbs
            clear hbs
            go_wp2_with fail
            refine (step_other b g _ _ (x % 4) _ 0 _ hmr (by omega) i0 I1.out G1.out 0 (by decide)).mono ?_
            rintro e w5 ⟨rfl, hm5, ho5⟩
            have n5 := ho5.keep hn.out (by omega) (by omega)
            have q5 := Cs_cell n5 _ hj
            have f5 := Cs_free n5 (x % 4).toNat
            rw [← HR.out] at q5
            go_wp2_with fail
            go_loopw [56] (fun i wr => ∃ (k2 c2 : Nat), k2 ≤ 4 ∧ i = .int .i64 k2 ∧ Mem wr b g (Ns (bs.set (x % 4).toNat false)) c2 ∧ c2 ≤ 5 * k + 1 + k2 ∧ Hid (wr.heap[w3.heap.size]? = some (Cs (bs.set (x % 4).toNat false))) ∧ Below w.heap.size w wr)
              (fun i _ => 4 - (intOf i).toNat)
            case atStart => exact ⟨0, c + 1, by omega, rfl, by rw [HBS.out]; exact hm5.setOther (by omega) (by omega), by omega, Cs_set n5 _ false, (hbr.trans ((ho5).below (by omega) (by omega) (by omega))).setCell (by simp; omega) _⟩
            case round =>
              obtain ⟨k2, c2, hk2, rfl, hmr2, hc2, hn2, hbr2⟩ := hrel
              have hsr2 := hbr2.size
              by_cases hlt2 : k2 < 4
              · have hk2' : k2 < (bs.set (x % 4).toNat false).length := by have := HBL.out; simp; omega
                have q2 := Cs_cell hn2.out k2 hk2'
                have g2 := Ns_getD _ k2 hk2'
                have i2 : (k2 : Int) < ((Ns (bs.set (x % 4).toNat false)).length : Int) := by have := HBL.out; simp [Ns]; omega
                have i3 : (0 : Int) ≤ (k2 : Int) := by omega
                obtain ⟨q, hq⟩ : ∃ q, q = (bs.set (x % 4).toNat false).getD k2 false := ⟨_, rfl⟩
                rw [← hq] at q2 g2
                have hF : (F q == 1) = q := by cases q <;> rfl
                have HF := hid hF
                have HQ := hid hq
                have G2 : Hid ((Ns (bs.set (x % 4).toNat false)).getD (k2 : Int).toNat 0 = F q) := g2
                have I2 := hid i2
                clear hq g2 hF i2
                go_wp2_with fail
                go_region_with (go_at_call 43; (with_reducible refine (is_in b g _ _ k2 (F q) _ (Mem.drew hmr2) (by omega) i3 I2.out G2.out q HF.out).mono ?_); rintro e w8 ⟨rfl, hm8, ho8⟩; have n8 := keep_drew ho8 hn2.out (by omega) (by omega); have q8 := Cs_cell n8 k2 hk2'; rw [← HQ.out] at q8)
                all_goals
                  go_wp2
                  go_roundw
                  case rel => exact ⟨k2 + 1, c2 + 1, by omega, by go_num, hm8, by omega, n8, hbr2.trans ((only_drew ho8).below (by omega) (by omega) (by omega))⟩
                  case measure => simp [intOf]; omega
              · obtain rfl : k2 = 4 := by omega
                go_wp2
                go_roundw
                case rel => exact ⟨k + 1, c2, _, by omega, by go_num, hmr2, by omega, by have := HBL.out; simp; omega, hn2, hbr2⟩
                case measure => simp [intOf]; omega
          · have G1 : Hid ((Ns bs).getD (x % 4).toNat 0 = 1) := G0.out
            go_wp2_with fail
            refine (step_woken b g _ _ (x % 4) _ 0 _ hmr (by omega) i0 I1.out G1.out).mono ?_
            rintro e w5 ⟨rfl, hm5, ho5⟩
            have n5 := ho5.keep hn.out (by omega) (by omega)
            have q5 := Cs_cell n5 _ hj
            have f5 := Cs_free n5 (x % 4).toNat
            rw [← HR.out] at q5
            go_wp2_with fail
            go_loopw [56] (fun i wr => ∃ (k2 c2 : Nat), k2 ≤ 4 ∧ i = .int .i64 k2 ∧ Mem wr b g (Ns (bs.set (x % 4).toNat false)) c2 ∧ c2 ≤ 5 * k + 1 + k2 ∧ Hid (wr.heap[w3.heap.size]? = some (Cs (bs.set (x % 4).toNat false))) ∧ Below w.heap.size w wr)
              (fun i _ => 4 - (intOf i).toNat)
            case atStart => exact ⟨0, c + 1, by omega, rfl, by rw [← Ns_set bs _ false 0 rfl]; exact hm5.setOther (by omega) (by omega), by omega, Cs_set n5 _ false, (hbr.trans ((ho5).below (by omega) (by omega) (by omega))).setCell (by simp; omega) _⟩
            case round =>
              obtain ⟨k2, c2, hk2, rfl, hmr2, hc2, hn2, hbr2⟩ := hrel
              have hsr2 := hbr2.size
              by_cases hlt2 : k2 < 4
              · have hk2' : k2 < (bs.set (x % 4).toNat false).length := by have := HBL.out; simp; omega
                have q2 := Cs_cell hn2.out k2 hk2'
                have g2 := Ns_getD _ k2 hk2'
                have i2 : (k2 : Int) < ((Ns (bs.set (x % 4).toNat false)).length : Int) := by have := HBL.out; simp [Ns]; omega
                have i3 : (0 : Int) ≤ (k2 : Int) := by omega
                obtain ⟨q, hq⟩ : ∃ q, q = (bs.set (x % 4).toNat false).getD k2 false := ⟨_, rfl⟩
                rw [← hq] at q2 g2
                have hF : (F q == 1) = q := by cases q <;> rfl
                have HF := hid hF
                have HQ := hid hq
                have G2 : Hid ((Ns (bs.set (x % 4).toNat false)).getD (k2 : Int).toNat 0 = F q) := g2
                have I2 := hid i2
                clear hq g2 hF i2
                go_wp2_with fail
                go_region_with (go_at_call 43; (with_reducible refine (is_in b g _ _ k2 (F q) _ (Mem.drew hmr2) (by omega) i3 I2.out G2.out q HF.out).mono ?_); rintro e w8 ⟨rfl, hm8, ho8⟩; have n8 := keep_drew ho8 hn2.out (by omega) (by omega); have q8 := Cs_cell n8 k2 hk2'; rw [← HQ.out] at q8)
                all_goals
                  go_wp2
                  go_roundw
                  case rel => exact ⟨k2 + 1, c2 + 1, by omega, by go_num, hm8, by omega, n8, hbr2.trans ((only_drew ho8).below (by omega) (by omega) (by omega))⟩
                  case measure => simp [intOf]; omega
              · obtain rfl : k2 = 4 := by omega
                go_wp2
                go_roundw
                case rel => exact ⟨k + 1, c2, _, by omega, by go_num, hmr2, by omega, by have := HBL.out; simp; omega, hn2, hbr2⟩
                case measure => simp [intOf]; omega
      · go_wp2
        go_ret
        exact ⟨rfl, hbr⟩

end Go.Proofs.Ytdljacmagabilaa.noteCells
