/- The document's ring as a value: Put on a full row. -/
import Derived.Test.YtciilbpchejpcaaRef9
import Derived.Deep.RegionLaw
import Derived.Deep.AppendLies
namespace Go.Proofs.Ytciilbpchejpcaa
set_option linter.unusedVariables false
set_option linter.unusedSimpArgs false
open Go.RowKit

/-- A new slice is told; the row is the end of the very slice, in whatever world that slice reads. -/
def RefTail (rv : Value) (xs ys ts : List Int) (b : Bool) (nx st : Int) (w : World) (e : Ending) (w' : World) : Prop :=
  ∃ rv' tv, e = .returned (.tuple #[.agg #[rv', .bool b, .int .i64 nx, .int .i64 st], tv]) ∧ (∀ W, Reads W rv xs → Reads W rv' ys) ∧
    (∀ g o n c, rv' = .slice (some ⟨g, o, none⟩) n c → 0 < ys.length → ∃ o' n' c', rv = .slice (some ⟨g, o', none⟩) n' c') ∧ Owns w' w.heap.size tv ts ∧ Below w.heap.size w w'

set_option maxRecDepth 100000 in
set_option maxHeartbeats 8000000 in
theorem refput_full (rv : Value) (xs : List Int) (b : Bool) (nx st g : Int) (w : World) (h : Reads w rv xs) (hl : xs.length = 256) :
    Calls Try.prog 76 #[.agg #[rv, .bool b, .int .i64 nx, .int .i64 st], .int .i64 g] w (RefTail rv xs (xs.drop 128) (xs.take 128 ++ [g]) b nx st w) := by
  obtain ⟨a, c, rfl, _⟩ := id h
  have HL := hid hl
  rw [hl]
  have HR := hid h
  rw [hl] at HR
  obtain ⟨o1, ho1⟩ : ∃ o, o = Obj.cells #[.slice a 256 c, .bool b, .int .i64 nx, .int .i64 st] 54 (0, 0) := ⟨_, rfl⟩
  obtain ⟨o2, ho2⟩ : ∃ o, o = Obj.cells #[.slice none 0 0, .bool false, .int .i64 0, .int .i64 0] 54 (0, 0) := ⟨_, rfl⟩
  have HB0 := hid (((Below.refl w.heap.size w).alloc (Nat.le_refl _) o1).alloc (by simp) o2)
  subst ho1 ho2
  clear h hl
  go_enter Try.func76, Try.ntmps76
  go_wp2_with fail
  refine (rtake_any _ xs 128 128 (by have := HL.out; omega) _ (HR.out.of_below HB0.out) (by have := HL.out; omega)).mono ?_
  rintro e w2 ⟨v1, v2, rfl, ho2, hrd2, hkin2, hb2⟩
  simp only [World.size_alloc] at ho2 hb2
  have hws := hb2.size
  simp only [World.size_alloc] at hws
  have n2 : w2.heap[w.heap.size]? = some (.cells #[.slice a 256 c, .bool b, .int .i64 nx, .int .i64 st] 54 (0, 0)) := by
    rw [hb2.block _ (by omega), Below.heap_alloc _ _ _ (by simp)]
    exact Deep.blk_alloc_new _ _
  have r2 : w2.heap[w.heap.size + 1]? = some (.cells #[.slice none 0 0, .bool false, .int .i64 0, .int .i64 0] 54 (0, 0)) := by
    rw [hb2.block _ (by omega)]
    have := Deep.blk_alloc_new (w.alloc (.cells #[.slice a 256 c, .bool b, .int .i64 nx, .int .i64 st] 54 (0, 0))) (.cells #[.slice none 0 0, .bool false, .int .i64 0, .int .i64 0] 54 (0, 0))
    simpa using this
  have HBW := hid (HB0.out.trans (hb2.mono (by omega)))
  have hrd := hrd2 w2 (HR.out.of_below HBW.out)
  obtain ⟨a1, m1, c1, rfl⟩ := ho2.slice3
  obtain ⟨a2, c2, rfl, _⟩ := id hrd
  obtain ⟨m2, hm2⟩ : ∃ m, m = (xs.drop 128).length := ⟨_, rfl⟩
  rw [← hm2] at hrd hrd2 hkin2 ⊢
  have HO := hid ho2
  have HRD := hid hrd2
  have HKI := hid hkin2
  have HM2 := hid hm2
  have j0 : w2.cell? ⟨w.heap.size, 0, none⟩ = some (.slice a 256 c) := cell_at n2 rfl
  have e0 : w2.frozen? ⟨w.heap.size, 0, none⟩ = false := free_at n2
  have N2 := hid n2
  have R2 := hid r2
  clear ho2 hb2 hrd hrd2 hkin2 hm2 n2 r2
  go_wp2_with fail
  -- the world behind the store of the rest
  have hn3 := heap_setCell_same w2 w.heap.size 0 _ _ (.slice a2 m2 c2) N2.out
  have hr3 := (heap_setCell_other w2 ⟨w.heap.size, 0, none⟩ (w.heap.size + 1) (.slice a2 m2 c2) (by simp)).trans R2.out
  have hb3 : Below w.heap.size w (w2.setCell ⟨w.heap.size, 0, none⟩ (.slice a2 m2 c2)) := HBW.out.setCell (Nat.le_refl _) _
  have ho3 : Owns (w2.setCell ⟨w.heap.size, 0, none⟩ (.slice a2 m2 c2)) (w.heap.size + 2) (.slice a1 m1 c1) (xs.take 128) := HO.out.kept (fun k hk => by
      have := (HO.out.lt k hk).1
      have k0 : k ≠ w.heap.size := by omega
      rw [Below.heap_setCell _ _ _ _ k0])
  have hs3 : (w2.setCell ⟨w.heap.size, 0, none⟩ (.slice a2 m2 c2)).heap.size = w2.heap.size := by simp [World.setCell]
  clear N2 R2 HBW HO j0 e0
  generalize w2.setCell ⟨w.heap.size, 0, none⟩ (.slice a2 m2 c2) = w3 at hn3 hr3 hb3 ho3 hs3 ⊢
  have hn3' : w3.heap[w.heap.size]? = some (.cells #[.slice a2 m2 c2, .bool b, .int .i64 nx, .int .i64 st] 54 (0, 0)) := by simpa using hn3
  rw [← hs3] at hws
  clear hs3 hn3
  have hn : w3.cell? ⟨w.heap.size, 0, none⟩ = some (.slice a2 m2 c2) := cell_at (i := 0) hn3' rfl
  have hn1 : w3.cell? ⟨w.heap.size, 1, none⟩ = some (.bool b) := cell_at (i := 1) hn3' rfl
  have hn2 : w3.cell? ⟨w.heap.size, 2, none⟩ = some (.int .i64 nx) := cell_at (i := 2) hn3' rfl
  have hn3 : w3.cell? ⟨w.heap.size, 3, none⟩ = some (.int .i64 st) := cell_at (i := 3) hn3' rfl
  have hln : (xs.take 128).length = 128 := by rw [List.length_take]; have := HL.out; omega
  have hown : w3.ownsRow (w.heap.size + 2) 3 1 (.slice a1 m1 c1) 128 ((xs.take 128).map (Value.int .i64)) := by
    have := ho3
    unfold Owns at this
    rw [hln] at this
    exact this
  have hlt1 := World.ownsRow.lt hown
  have hnA : (w3.alloc (.cells #[.int .i64 g] 3)).heap[w.heap.size]? = some (.cells #[.slice a2 m2 c2, .bool b, .int .i64 nx, .int .i64 st] 54 (0, 0)) := by
    rw [Below.heap_alloc _ _ _ (by omega)]; exact hn3'
  have ha0 : (w3.alloc (.cells #[.int .i64 g] 3)).cell? ⟨w.heap.size, 0, none⟩ = some (.slice a2 m2 c2) := cell_at (i := 0) hnA rfl
  have ha1 : (w3.alloc (.cells #[.int .i64 g] 3)).cell? ⟨w.heap.size, 1, none⟩ = some (.bool b) := cell_at (i := 1) hnA rfl
  have ha2 : (w3.alloc (.cells #[.int .i64 g] 3)).cell? ⟨w.heap.size, 2, none⟩ = some (.int .i64 nx) := cell_at (i := 2) hnA rfl
  have ha3 : (w3.alloc (.cells #[.int .i64 g] 3)).cell? ⟨w.heap.size, 3, none⟩ = some (.int .i64 st) := cell_at (i := 3) hnA rfl
  have HB3 := hid hb3
  have HN3 := hid hn3'
  have HR3 := hid hr3
  have HOW := hid hown
  have HLT := hid hlt1
  have B1 := hid (show 128 + 1 ≤ maxLen by unfold maxLen; omega)
  have B2 := hid (show (128 + 1) * 8 ≤ 140737488355328 by omega)
  have FC := hid (show ∀ w4 : World, ((w3.alloc (.cells #[.int .i64 g] 3 (0, 0))).drew).grownBy w4 (Value.slice a1 m1 c1).ownBlock → w4.heap[w.heap.size]? = some (.cells #[.slice a2 m2 c2, .bool b, .int .i64 nx, .int .i64 st] 54 (0, 0)) ∧ w4.heap[w.heap.size + 1]? = some (.cells #[.slice none 0 0, .bool false, .int .i64 0, .int .i64 0] 54 (0, 0)) from fun w4 hg => by
    constructor
    · rw [hg.block _ (by simp; omega) (fun e => by have := (HLT.out _ e.symm).1; omega)]
      have : ((w3.alloc (.cells #[.int .i64 g] 3 (0, 0))).drew).heap[w.heap.size]? = w3.heap[w.heap.size]? := by
        show (w3.alloc _).heap[_]? = _
        rw [Below.heap_alloc _ _ _ (by omega)]
      rw [this]; exact HN3.out
    rw [hg.block _ (by simp; omega) (fun e => by have := (HLT.out _ e.symm).1; omega)]
    have : ((w3.alloc (.cells #[.int .i64 g] 3 (0, 0))).drew).heap[w.heap.size + 1]? = w3.heap[w.heap.size + 1]? := by
      show (w3.alloc _).heap[_]? = _
      rw [Below.heap_alloc _ _ _ (by omega)]
    rw [this]; exact HR3.out)
  obtain ⟨i0, hi, hz0, hz1, hz2⟩ := info_parts infoInt
  clear hb3 hn3' hnA hr3 hown hlt1 ho3 hln
  go_region_law ((refine step_append_lies _ (by rfl) _ _ _ (by rfl) (w.heap.size + 2) 3 i0 _ 1 8 Try.underlying22 hi hz0 hz1 hz2 rfl (by omega) _ 128 _ (by rfl) ((HOW.out.alloc _).drew) ⟨w3.heap.size, 0, none⟩ 1 1 [.int .i64 g] (by rfl) (by rfl) (World.news_of_block (cs := #[.int .i64 g]) (t := 3) (fr := (0, 0)) (heap_alloc_new w3 _)) (by simp [Value.oneCell']) (by omega) B1.out B2.out (by simp; omega) (w3.heap.size + 1) (by simp) ?_; intro gg cap w4 hown4 hgrow4 hat4 hlt4; obtain ⟨n4, r4⟩ := FC.out _ hgrow4; have y0 : w4.cell? ⟨w.heap.size, 0, none⟩ = some (.slice a2 m2 c2) := cell_at (i := 0) n4 rfl; have y1 : w4.cell? ⟨w.heap.size, 1, none⟩ = some (.bool b) := cell_at (i := 1) n4 rfl; have y2 : w4.cell? ⟨w.heap.size, 2, none⟩ = some (.int .i64 nx) := cell_at (i := 2) n4 rfl; have y3 : w4.cell? ⟨w.heap.size, 3, none⟩ = some (.int .i64 st) := cell_at (i := 3) n4 rfl; have s0 : w4.cell? ⟨w.heap.size + 1, 0, none⟩ = some (.slice none 0 0) := cell_at (i := 0) r4 rfl; have f0 := free_at (i := 0) r4; have s1 : w4.cell? ⟨w.heap.size + 1, 1, none⟩ = some (.bool false) := cell_at (i := 1) r4 rfl; have f1 := free_at (i := 1) r4; have s2 : w4.cell? ⟨w.heap.size + 1, 2, none⟩ = some (.int .i64 0) := cell_at (i := 2) r4 rfl; have f2 := free_at (i := 2) r4; have s3 : w4.cell? ⟨w.heap.size + 1, 3, none⟩ = some (.int .i64 0) := cell_at (i := 3) r4 rfl; have f3 := free_at (i := 3) r4; have HG4 := hid hgrow4; have HO4 := hid hown4; have HT4 := hid hlt4; have R4 := hid r4; clear hown4 hgrow4 hat4 hlt4 r4 n4))
  all_goals
    have hb4 : Below w.heap.size w w4 := (((HB3.out.alloc (by omega) (.cells #[.int .i64 g] 3)).trans (Quiet.below ⟨1, rfl⟩ _)).grown HG4.out (by simp; omega) (fun q hq => by have := (HLT.out q hq).1; omega))
    have hF : Below w.heap.size w ((((w4.setCell ⟨w.heap.size + 1, 0, none⟩ (.slice a2 m2 c2)).setCell ⟨w.heap.size + 1, 1, none⟩ (.bool b)).setCell ⟨w.heap.size + 1, 2, none⟩ (.int .i64 nx)).setCell ⟨w.heap.size + 1, 3, none⟩ (.int .i64 st)) :=
      (((hb4.setCell (by simp) _).setCell (by simp) _).setCell (by simp) _).setCell (by simp) _
    have HOS : Owns w4 (w.heap.size + 2) (.slice (some ⟨gg, 0, none⟩) 129 cap) (xs.take 128 ++ [g]) := by
      have h4 := HO4.out
      have hln : (xs.take 128 ++ [g]).length = 129 := by rw [List.length_append, List.length_take]; have := HL.out; simp; omega
      unfold Owns
      rw [hln]
      simpa using h4
    have HOQ := hid HOS
    have HFQ := hid hF
    clear hb4 hF HOS
    go_wp2
    refine bodyPost_ret (v := .tuple #[.agg #[.slice a2 m2 c2, .bool b, .int .i64 nx, .int .i64 st], .slice (some ⟨gg, 0, none⟩) 129 cap]) (by simp [results, Try.results76, go_sem, s0, s1, s2, s3]) rfl ⟨_, _, rfl, HRD.out, fun g o k c' he h0 => HKI.out g o k c' he (by rw [HM2.out]; exact h0), ?_, HFQ.out⟩
    exact (HOQ.out.mono (by omega)).kept (fun k hk => by
      have := (HOQ.out.lt k hk).1
      have k1 : k ≠ w.heap.size + 1 := by omega
      rw [Below.heap_setCell _ _ _ _ k1, Below.heap_setCell _ _ _ _ k1, Below.heap_setCell _ _ _ _ k1, Below.heap_setCell _ _ _ _ k1])
end Go.Proofs.Ytciilbpchejpcaa
