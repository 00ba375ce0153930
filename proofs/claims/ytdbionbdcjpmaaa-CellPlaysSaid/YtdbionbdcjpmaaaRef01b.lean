/- The document's memory as a value: Load, Store, Add, Swap. -/
import Derived.Test.YtdbionbdcjpmaaaRef01
namespace Go.Proofs.Ytdbionbdcjpmaaa
set_option linter.unusedVariables false
set_option linter.unusedSimpArgs false
open Go.RowKit

/-- What a deed of the document's memory answers. -/
def RfPost (w : World) (base n : Nat) (v : Value) (xs : List Int) (k : Nat) (res : Value) (e : Ending) (w' : World) : Prop :=
  ∃ a c, e = .returned (.tuple #[.agg #[.slice a n c, .int .i64 k], res]) ∧ (∀ q, (Value.slice a n c).ownBlock = some q → v.ownBlock = some q ∨ w.heap.size ≤ q) ∧ Offs w' base 30 (.slice a n c) (vals xs) ∧ Below w.heap.size w w'
set_option maxHeartbeats 4000000 in
theorem rload_out (k : Nat) (i : Int) (base n c : Nat) (a : Option Addr) (xs : List Int) (w : World) (h : Offs w base 30 (.slice a n c) (vals xs)) (hb : base ≤ w.heap.size) (hl : xs.length ≤ 1000) (hk : k ≤ 1000000) (hi : i < 0 ∨ (xs.length : Int) ≤ i) :
    Calls Try.prog 26 #[.agg #[.slice a n c, .int .i64 k], .int .i64 i] w (RfPost w base n (.slice a n c) xs k (.int .u64 0)) := by
  have hn : n = xs.length := by obtain ⟨_, _, e⟩ := h.slice; simp only [Value.slice.injEq, vals_len] at e; exact e.2.1
  have K0 := hid (kq_first w k a n c)
  have HO := hid h
  have HN := hid hn
  have hio : i < 0 ∨ (n : Int) ≤ i := by omega
  clear h hn
  go_enter Try.func26, Try.ntmps26
  go_wp2_with fail
  refine (ris_out k i a n c _ hio).mono ?_
  rintro e w5 ⟨rfl, hb5⟩
  have K5 := hid (K0.out.next hb5)
  clear hb5 K0
  obtain ⟨⟨r0, r1⟩, r2, r3⟩ := K5.out.r
  obtain ⟨s0, s1⟩ := K5.out.s
  have FN := hid (K5.out.fin (.slice a n c) (.int .i64 k))
  go_wp2_with fail
  obtain ⟨hb', hc, hk'⟩ := FN.out
  have H := hid (⟨hb', HO.out.kept (fun q hq => hb'.block q (HO.out.lt q hq).2)⟩ : Below w.heap.size w _ ∧ Offs _ base 30 _ _)
  have d0 := cell_blk1 (i := 0) hc rfl
  have d1 := cell_blk1 (i := 1) hc rfl
  clear hb' hc hk' FN
  generalize (w5.setCell ⟨w.heap.size + 1, 0, none⟩ (.slice a n c)).setCell ⟨w.heap.size + 1, 1, none⟩ (.int .i64 k) = W at *
  refine bodyPost_ret (v := .tuple #[.agg #[.slice a n c, .int .i64 k], .int .u64 0]) (by simp [results, Try.results26, go_sem, d0, d1]) rfl ⟨_, _, by rfl, fun q hq => .inl hq, H.out.2, H.out.1⟩

set_option maxHeartbeats 4000000 in
theorem rstore_out (k : Nat) (i x : Int) (base n c : Nat) (a : Option Addr) (xs : List Int) (w : World) (h : Offs w base 30 (.slice a n c) (vals xs)) (hb : base ≤ w.heap.size) (hl : xs.length ≤ 1000) (hk : k ≤ 1000000) (hi : i < 0 ∨ (xs.length : Int) ≤ i) :
    Calls Try.prog 27 #[.agg #[.slice a n c, .int .i64 k], .int .i64 i, .int .u64 x] w (RfPost w base n (.slice a n c) xs k (.bool false)) := by
  have hn : n = xs.length := by obtain ⟨_, _, e⟩ := h.slice; simp only [Value.slice.injEq, vals_len] at e; exact e.2.1
  have K0 := hid (kq_first w k a n c)
  have HO := hid h
  have HN := hid hn
  have hio : i < 0 ∨ (n : Int) ≤ i := by omega
  clear h hn
  go_enter Try.func27, Try.ntmps27
  go_wp2_with fail
  refine (ris_out k i a n c _ hio).mono ?_
  rintro e w5 ⟨rfl, hb5⟩
  have K5 := hid (K0.out.next hb5)
  clear hb5 K0
  obtain ⟨⟨r0, r1⟩, r2, r3⟩ := K5.out.r
  obtain ⟨s0, s1⟩ := K5.out.s
  have FN := hid (K5.out.fin (.slice a n c) (.int .i64 k))
  go_wp2_with fail
  obtain ⟨hb', hc, hk'⟩ := FN.out
  have H := hid (⟨hb', HO.out.kept (fun q hq => hb'.block q (HO.out.lt q hq).2)⟩ : Below w.heap.size w _ ∧ Offs _ base 30 _ _)
  have d0 := cell_blk1 (i := 0) hc rfl
  have d1 := cell_blk1 (i := 1) hc rfl
  clear hb' hc hk' FN
  generalize (w5.setCell ⟨w.heap.size + 1, 0, none⟩ (.slice a n c)).setCell ⟨w.heap.size + 1, 1, none⟩ (.int .i64 k) = W at *
  refine bodyPost_ret (v := .tuple #[.agg #[.slice a n c, .int .i64 k], .bool false]) (by simp [results, Try.results27, go_sem, d0, d1]) rfl ⟨_, _, by rfl, fun q hq => .inl hq, H.out.2, H.out.1⟩

set_option maxHeartbeats 4000000 in
theorem radd_out (k : Nat) (i d : Int) (base n c : Nat) (a : Option Addr) (xs : List Int) (w : World) (h : Offs w base 30 (.slice a n c) (vals xs)) (hb : base ≤ w.heap.size) (hl : xs.length ≤ 1000) (hk : k ≤ 1000000) (hi : i < 0 ∨ (xs.length : Int) ≤ i) :
    Calls Try.prog 29 #[.agg #[.slice a n c, .int .i64 k], .int .i64 i, .int .i64 d] w (RfPost w base n (.slice a n c) xs k (.int .u64 0)) := by
  have hn : n = xs.length := by obtain ⟨_, _, e⟩ := h.slice; simp only [Value.slice.injEq, vals_len] at e; exact e.2.1
  have K0 := hid (kq_first w k a n c)
  have HO := hid h
  have HN := hid hn
  have hio : i < 0 ∨ (n : Int) ≤ i := by omega
  clear h hn
  go_enter Try.func29, Try.ntmps29
  go_wp2_with fail
  refine (ris_out k i a n c _ hio).mono ?_
  rintro e w5 ⟨rfl, hb5⟩
  have K5 := hid (K0.out.next hb5)
  clear hb5 K0
  obtain ⟨⟨r0, r1⟩, r2, r3⟩ := K5.out.r
  obtain ⟨s0, s1⟩ := K5.out.s
  have FN := hid (K5.out.fin (.slice a n c) (.int .i64 k))
  go_wp2_with fail
  obtain ⟨hb', hc, hk'⟩ := FN.out
  have H := hid (⟨hb', HO.out.kept (fun q hq => hb'.block q (HO.out.lt q hq).2)⟩ : Below w.heap.size w _ ∧ Offs _ base 30 _ _)
  have d0 := cell_blk1 (i := 0) hc rfl
  have d1 := cell_blk1 (i := 1) hc rfl
  clear hb' hc hk' FN
  generalize (w5.setCell ⟨w.heap.size + 1, 0, none⟩ (.slice a n c)).setCell ⟨w.heap.size + 1, 1, none⟩ (.int .i64 k) = W at *
  refine bodyPost_ret (v := .tuple #[.agg #[.slice a n c, .int .i64 k], .int .u64 0]) (by simp [results, Try.results29, go_sem, d0, d1]) rfl ⟨_, _, by rfl, fun q hq => .inl hq, H.out.2, H.out.1⟩

set_option maxHeartbeats 4000000 in
theorem rswap_out (k : Nat) (i o x : Int) (base n c : Nat) (a : Option Addr) (xs : List Int) (w : World) (h : Offs w base 30 (.slice a n c) (vals xs)) (hb : base ≤ w.heap.size) (hl : xs.length ≤ 1000) (hk : k ≤ 1000000) (hi : i < 0 ∨ (xs.length : Int) ≤ i) :
    Calls Try.prog 30 #[.agg #[.slice a n c, .int .i64 k], .int .i64 i, .int .u64 o, .int .u64 x] w (RfPost w base n (.slice a n c) xs k (.bool false)) := by
  have hn : n = xs.length := by obtain ⟨_, _, e⟩ := h.slice; simp only [Value.slice.injEq, vals_len] at e; exact e.2.1
  have K0 := hid (kq_first w k a n c)
  have HO := hid h
  have HN := hid hn
  have hio : i < 0 ∨ (n : Int) ≤ i := by omega
  clear h hn
  go_enter Try.func30, Try.ntmps30
  go_wp2_with fail
  refine (ris_out k i a n c _ hio).mono ?_
  rintro e w5 ⟨rfl, hb5⟩
  have K5 := hid (K0.out.next hb5)
  clear hb5 K0
  obtain ⟨⟨r0, r1⟩, r2, r3⟩ := K5.out.r
  obtain ⟨s0, s1⟩ := K5.out.s
  have FN := hid (K5.out.fin (.slice a n c) (.int .i64 k))
  go_wp2_with fail
  obtain ⟨hb', hc, hk'⟩ := FN.out
  have H := hid (⟨hb', HO.out.kept (fun q hq => hb'.block q (HO.out.lt q hq).2)⟩ : Below w.heap.size w _ ∧ Offs _ base 30 _ _)
  have d0 := cell_blk1 (i := 0) hc rfl
  have d1 := cell_blk1 (i := 1) hc rfl
  clear hb' hc hk' FN
  generalize (w5.setCell ⟨w.heap.size + 1, 0, none⟩ (.slice a n c)).setCell ⟨w.heap.size + 1, 1, none⟩ (.int .i64 k) = W at *
  refine bodyPost_ret (v := .tuple #[.agg #[.slice a n c, .int .i64 k], .bool false]) (by simp [results, Try.results30, go_sem, d0, d1]) rfl ⟨_, _, by rfl, fun q hq => .inl hq, H.out.2, H.out.1⟩

set_option maxHeartbeats 4000000 in
theorem rstore_in (k : Nat) (i x : Int) (base n c : Nat) (a : Option Addr) (xs : List Int) (w : World) (h : Offs w base 30 (.slice a n c) (vals xs)) (hb : base ≤ w.heap.size) (hl : xs.length ≤ 1000) (hk : k ≤ 1000000) (hi0 : 0 ≤ i) (hi : i < xs.length) :
    Calls Try.prog 27 #[.agg #[.slice a n c, .int .i64 k], .int .i64 i, .int .u64 x] w (RfPost w base n (.slice a n c) (xs.set i.toNat x) (k + 1) (.bool true)) := by
  have hn : n = xs.length := by obtain ⟨_, _, e⟩ := h.slice; simp only [Value.slice.injEq, vals_len] at e; exact e.2.1
  have K0 := hid (kq_first w k a n c)
  have HO := hid h
  have HN := hid hn
  have hin : i < n := by omega
  clear h hn
  go_enter Try.func27, Try.ntmps27
  go_wp2_with fail
  refine (ris_in k i a n c _ hi0 hin).mono ?_
  rintro e w5 ⟨rfl, hb5⟩
  have K5 := hid (K0.out.next hb5)
  clear hb5 K0
  obtain ⟨⟨r0, r1⟩, r2, r3⟩ := K5.out.r
  obtain ⟨s0, s1⟩ := K5.out.s
  go_wp2_with fail
  refine (rset k i x base n c a xs w5 (HO.out.kept (fun q hq => K5.out.below.block q (HO.out.lt q hq).2)) hl hi0 (by have := HN.out; omega) hk).mono ?_
  rintro e w6 ⟨g1, o1, c1, rfl, ho6, hb6⟩
  have K6 := hid (K5.out.next hb6)
  have O6 := hid (ho6.mono' (show base ≤ w5.heap.size by have := K5.out.size; omega))
  have F6 := hid (fun q hq => (ho6.lt q hq).1)
  clear r0 r1 r2 r3 s0 s1 ho6 hb6
  obtain ⟨⟨r0, r1⟩, r2, r3⟩ := K6.out.r
  have FN := hid (K6.out.fin (.slice (some ⟨g1, o1, none⟩) n c1) (.int .i64 ((k : Int) + 1)))
  go_wp2_with fail
  obtain ⟨hb', hc, hk'⟩ := FN.out
  have H := hid (⟨hb', O6.out.kept (fun q hq => hk' q (by have h1 := F6.out q hq; have h2 := K5.out.size; omega))⟩ : Below w.heap.size w _ ∧ Offs _ base 30 _ _)
  have d0 := cell_blk1 (i := 0) hc rfl
  have d1 := cell_blk1 (i := 1) hc rfl
  clear hb' hc hk' FN
  generalize (w6.setCell ⟨w.heap.size + 1, 0, none⟩ (.slice (some ⟨g1, o1, none⟩) n c1)).setCell ⟨w.heap.size + 1, 1, none⟩ (.int .i64 ((k : Int) + 1)) = W at *
  refine bodyPost_ret (v := .tuple #[.agg #[.slice (some ⟨g1, o1, none⟩) n c1, .int .i64 ((k : Int) + 1)], .bool true]) (by simp [results, Try.results27, go_sem, d0, d1]) rfl ⟨_, _, by rfl, fun q hq => .inr (by have h1 := F6.out q hq; have h2 := K5.out.size; have h3 : w5.drew.heap.size = w5.heap.size := rfl; omega), H.out.2, H.out.1⟩

set_option maxHeartbeats 4000000 in
theorem radd_in (k : Nat) (i d : Int) (base n c : Nat) (a : Option Addr) (xs : List Int) (w : World) (h : Offs w base 30 (.slice a n c) (vals xs)) (hb : base ≤ w.heap.size) (hl : xs.length ≤ 1000) (hk : k ≤ 1000000) (hi0 : 0 ≤ i) (hi : i < xs.length) :
    Calls Try.prog 29 #[.agg #[.slice a n c, .int .i64 k], .int .i64 i, .int .i64 d] w (RfPost w base n (.slice a n c) (xs.set i.toNat (IntKind.u64.wrap (xs.getD i.toNat 0 + IntKind.u64.wrap d))) (k + 1) (.int .u64 (IntKind.u64.wrap (xs.getD i.toNat 0 + IntKind.u64.wrap d)))) := by
  have hn : n = xs.length := by obtain ⟨_, _, e⟩ := h.slice; simp only [Value.slice.injEq, vals_len] at e; exact e.2.1
  have K0 := hid (kq_first w k a n c)
  have HO := hid h
  have HN := hid hn
  have hin : i < n := by omega
  clear h hn
  go_enter Try.func29, Try.ntmps29
  go_wp2_with fail
  refine (ris_in k i a n c _ hi0 hin).mono ?_
  rintro e w5 ⟨rfl, hb5⟩
  have K5 := hid (K0.out.next hb5)
  clear hb5 K0
  obtain ⟨⟨r0, r1⟩, r2, r3⟩ := K5.out.r
  obtain ⟨s0, s1⟩ := K5.out.s
  obtain ⟨⟨g, off, rfl, e8, hg⟩, e9, hnc, hcm⟩ := HO.out.pos' (by rw [vals_len]; have := HN.out; omega)
  clear e8 e9
  unfold maxLen at hcm
  have hrow0 := HO.out.at' i.toNat _ (vals_get xs i.toNat (by have := HN.out; omega))
  obtain ⟨v, hv⟩ : ∃ v, v = xs.getD i.toNat 0 := ⟨_, rfl⟩
  rw [← hv] at hrow0
  have hrow : w5.cell? ⟨g, off + i.toNat, none⟩ = some (.int .u64 v) := (K5.out.below.cell (p := ⟨g, off + i.toNat, none⟩) hg).trans hrow0
  have HV := hid hv
  have HR := hid hrow0
  have HG := hid hg
  clear hv hrow0 hg
  go_wp2_with fail
  refine (rset k i (IntKind.u64.wrap (v + IntKind.u64.wrap d)) base n c (some ⟨g, off, none⟩) xs w5 (HO.out.kept (fun q hq => K5.out.below.block q (HO.out.lt q hq).2)) hl hi0 (by have := HN.out; omega) hk).mono ?_
  rintro e w6 ⟨g1, o1, c1, rfl, ho6, hb6⟩
  have K6 := hid (K5.out.next hb6)
  have O6 := hid (ho6.mono' (show base ≤ w5.heap.size by have := K5.out.size; omega))
  have F6 := hid (fun q hq => (ho6.lt q hq).1)
  clear r0 r1 r2 r3 s0 s1 ho6 hb6
  obtain ⟨⟨r0, r1⟩, r2, r3⟩ := K6.out.r
  have FN := hid (K6.out.fin (.slice (some ⟨g1, o1, none⟩) n c1) (.int .i64 ((k : Int) + 1)))
  go_wp2_with fail
  rw [HV.out] at *
  obtain ⟨hb', hc, hk'⟩ := FN.out
  have H := hid (⟨hb', O6.out.kept (fun q hq => hk' q (by have h1 := F6.out q hq; have h2 := K5.out.size; omega))⟩ : Below w.heap.size w _ ∧ Offs _ base 30 _ _)
  have d0 := cell_blk1 (i := 0) hc rfl
  have d1 := cell_blk1 (i := 1) hc rfl
  clear hb' hc hk' FN
  generalize (w6.setCell ⟨w.heap.size + 1, 0, none⟩ (.slice (some ⟨g1, o1, none⟩) n c1)).setCell ⟨w.heap.size + 1, 1, none⟩ (.int .i64 ((k : Int) + 1)) = W at *
  refine bodyPost_ret (v := .tuple #[.agg #[.slice (some ⟨g1, o1, none⟩) n c1, .int .i64 ((k : Int) + 1)], .int .u64 (IntKind.u64.wrap (xs.getD i.toNat 0 + IntKind.u64.wrap d))]) (by simp [results, Try.results29, go_sem, d0, d1]) rfl ⟨_, _, by rfl, fun q hq => .inr (by have h1 := F6.out q hq; have h2 := K5.out.size; have h3 : w5.drew.heap.size = w5.heap.size := rfl; omega), H.out.2, H.out.1⟩

set_option maxHeartbeats 4000000 in
theorem rswap_yes (k : Nat) (i o x : Int) (base n c : Nat) (a : Option Addr) (xs : List Int) (w : World) (h : Offs w base 30 (.slice a n c) (vals xs)) (hb : base ≤ w.heap.size) (hl : xs.length ≤ 1000) (hk : k ≤ 1000000) (hi0 : 0 ≤ i) (hi : i < xs.length) (heq : xs.getD i.toNat 0 = o) :
    Calls Try.prog 30 #[.agg #[.slice a n c, .int .i64 k], .int .i64 i, .int .u64 o, .int .u64 x] w (RfPost w base n (.slice a n c) (xs.set i.toNat x) (k + 1) (.bool true)) := by
  have hn : n = xs.length := by obtain ⟨_, _, e⟩ := h.slice; simp only [Value.slice.injEq, vals_len] at e; exact e.2.1
  have K0 := hid (kq_first w k a n c)
  have HO := hid h
  have HN := hid hn
  have hin : i < n := by omega
  clear h hn
  go_enter Try.func30, Try.ntmps30
  go_wp2_with fail
  refine (ris_in k i a n c _ hi0 hin).mono ?_
  rintro e w5 ⟨rfl, hb5⟩
  have K5 := hid (K0.out.next hb5)
  clear hb5 K0
  obtain ⟨⟨r0, r1⟩, r2, r3⟩ := K5.out.r
  obtain ⟨s0, s1⟩ := K5.out.s
  obtain ⟨⟨g, off, rfl, e8, hg⟩, e9, hnc, hcm⟩ := HO.out.pos' (by rw [vals_len]; have := HN.out; omega)
  clear e8 e9
  unfold maxLen at hcm
  have hrow0 := HO.out.at' i.toNat _ (vals_get xs i.toNat (by have := HN.out; omega))
  obtain ⟨v, hv⟩ : ∃ v, v = xs.getD i.toNat 0 := ⟨_, rfl⟩
  rw [← hv] at hrow0
  have hrow : w5.cell? ⟨g, off + i.toNat, none⟩ = some (.int .u64 v) := (K5.out.below.cell (p := ⟨g, off + i.toNat, none⟩) hg).trans hrow0
  have HV := hid hv
  have HR := hid hrow0
  have HG := hid hg
  clear hv hrow0 hg
  have tt : (v != o) = false := by rw [HV.out, heq]; simp
  go_wp2_with fail
  refine (rset k i x base n c (some ⟨g, off, none⟩) xs w5 (HO.out.kept (fun q hq => K5.out.below.block q (HO.out.lt q hq).2)) hl hi0 (by have := HN.out; omega) hk).mono ?_
  rintro e w6 ⟨g1, o1, c1, rfl, ho6, hb6⟩
  have K6 := hid (K5.out.next hb6)
  have O6 := hid (ho6.mono' (show base ≤ w5.heap.size by have := K5.out.size; omega))
  have F6 := hid (fun q hq => (ho6.lt q hq).1)
  clear r0 r1 r2 r3 s0 s1 ho6 hb6
  obtain ⟨⟨r0, r1⟩, r2, r3⟩ := K6.out.r
  have FN := hid (K6.out.fin (.slice (some ⟨g1, o1, none⟩) n c1) (.int .i64 ((k : Int) + 1)))
  go_wp2_with fail
  obtain ⟨hb', hc, hk'⟩ := FN.out
  have H := hid (⟨hb', O6.out.kept (fun q hq => hk' q (by have h1 := F6.out q hq; have h2 := K5.out.size; omega))⟩ : Below w.heap.size w _ ∧ Offs _ base 30 _ _)
  have d0 := cell_blk1 (i := 0) hc rfl
  have d1 := cell_blk1 (i := 1) hc rfl
  clear hb' hc hk' FN
  generalize (w6.setCell ⟨w.heap.size + 1, 0, none⟩ (.slice (some ⟨g1, o1, none⟩) n c1)).setCell ⟨w.heap.size + 1, 1, none⟩ (.int .i64 ((k : Int) + 1)) = W at *
  refine bodyPost_ret (v := .tuple #[.agg #[.slice (some ⟨g1, o1, none⟩) n c1, .int .i64 ((k : Int) + 1)], .bool true]) (by simp [results, Try.results30, go_sem, d0, d1]) rfl ⟨_, _, by rfl, fun q hq => .inr (by have h1 := F6.out q hq; have h2 := K5.out.size; have h3 : w5.drew.heap.size = w5.heap.size := rfl; omega), H.out.2, H.out.1⟩

set_option maxHeartbeats 4000000 in
theorem rload_in (k : Nat) (i : Int) (base n c : Nat) (a : Option Addr) (xs : List Int) (w : World) (h : Offs w base 30 (.slice a n c) (vals xs)) (hb : base ≤ w.heap.size) (hl : xs.length ≤ 1000) (hk : k ≤ 1000000) (hi0 : 0 ≤ i) (hi : i < xs.length) :
    Calls Try.prog 26 #[.agg #[.slice a n c, .int .i64 k], .int .i64 i] w (RfPost w base n (.slice a n c) (xs.set i.toNat (xs.getD i.toNat 0)) (k + 1) (.int .u64 (xs.getD i.toNat 0))) := by
  have hn : n = xs.length := by obtain ⟨_, _, e⟩ := h.slice; simp only [Value.slice.injEq, vals_len] at e; exact e.2.1
  have K0 := hid (kq_first w k a n c)
  have HO := hid h
  have HN := hid hn
  have hin : i < n := by omega
  clear h hn
  go_enter Try.func26, Try.ntmps26
  go_wp2_with fail
  refine (ris_in k i a n c _ hi0 hin).mono ?_
  rintro e w5 ⟨rfl, hb5⟩
  have K5 := hid (K0.out.next hb5)
  clear hb5 K0
  obtain ⟨⟨r0, r1⟩, r2, r3⟩ := K5.out.r
  obtain ⟨s0, s1⟩ := K5.out.s
  obtain ⟨⟨g, off, rfl, e8, hg⟩, e9, hnc, hcm⟩ := HO.out.pos' (by rw [vals_len]; have := HN.out; omega)
  clear e8 e9
  unfold maxLen at hcm
  have hrow0 := HO.out.at' i.toNat _ (vals_get xs i.toNat (by have := HN.out; omega))
  obtain ⟨v, hv⟩ : ∃ v, v = xs.getD i.toNat 0 := ⟨_, rfl⟩
  rw [← hv] at hrow0
  have hrow : w5.cell? ⟨g, off + i.toNat, none⟩ = some (.int .u64 v) := (K5.out.below.cell (p := ⟨g, off + i.toNat, none⟩) hg).trans hrow0
  have HV := hid hv
  have HR := hid hrow0
  have HG := hid hg
  clear hv hrow0 hg
  have RSS := hid (fun w' u1 u2 (hw : Kq w w' k (some ⟨g, off, none⟩) n c) => (⟨(hw.stored u1 u2).1, (hw.stored u1 u2).2, by
    have := HG.out
    rw [World.cell?_of_block (w := w') (by rw [Below.heap_setCell _ _ _ _ (show g ≠ w.heap.size + 1 by omega), Below.heap_setCell _ _ _ _ (show g ≠ w.heap.size + 1 by omega)])]
    exact (hw.below.cell (p := ⟨g, off + i.toNat, none⟩) HG.out).trans HR.out⟩ : ((w'.setCell ⟨w.heap.size + 1, 0, none⟩ u1).setCell ⟨w.heap.size + 1, 1, none⟩ u2).cell? ⟨w.heap.size, 0, none⟩ = some (.slice (some ⟨g, off, none⟩) n c) ∧ ((w'.setCell ⟨w.heap.size + 1, 0, none⟩ u1).setCell ⟨w.heap.size + 1, 1, none⟩ u2).cell? ⟨w.heap.size, 1, none⟩ = some (.int .i64 k) ∧ ((w'.setCell ⟨w.heap.size + 1, 0, none⟩ u1).setCell ⟨w.heap.size + 1, 1, none⟩ u2).cell? ⟨g, off + i.toNat, none⟩ = some (.int .u64 v)))
  have RS := hid (fun w' (hw : Kq w w' k (some ⟨g, off, none⟩) n c) => (⟨hw.s.1, hw.s.2, (hw.below.cell (p := ⟨g, off + i.toNat, none⟩) HG.out).trans HR.out⟩ : w'.cell? ⟨w.heap.size, 0, none⟩ = some (.slice (some ⟨g, off, none⟩) n c) ∧ w'.cell? ⟨w.heap.size, 1, none⟩ = some (.int .i64 k) ∧ w'.cell? ⟨g, off + i.toNat, none⟩ = some (.int .u64 v)))
  have K5d := hid K5.out.drew
  have SET := hid (rset k i v base n c (some ⟨g, off, none⟩) xs w5.drew (HO.out.kept (fun q hq => K5d.out.below.block q (HO.out.lt q hq).2)) hl hi0 (by have := HN.out; omega) hk)
  go_wp2_with fail
  clear hrow r0 r1 r2 r3 s0 s1 hl
  go_region_held3 (fun w' => w'.cell? ⟨w.heap.size, 0, none⟩ = some (.slice (some ⟨g, off, none⟩) n c) ∧ w'.cell? ⟨w.heap.size, 1, none⟩ = some (.int .i64 k) ∧ w'.cell? ⟨g, off + i.toNat, none⟩ = some (.int .u64 v))
    (first
      | with_reducible exact RS.out _ K5d.out
      | with_reducible exact RS.out _ K6.out
      | with_reducible exact K6S.out _ _)
    (first
      | (go_at_call 34; refine (SET.out).mono ?_; rintro e w6 ⟨g1, o1, c1, rfl, ho6, hb6⟩; have K6 := hid (K5d.out.next hb6); have O6 := hid (ho6.mono' (show base ≤ w5.drew.heap.size by have := K5.out.size; show base ≤ w5.heap.size; omega)); have F6 := hid (fun q hq => (ho6.lt q hq).1); have K6S := hid (fun u1 u2 => RSS.out w6 u1 u2 K6.out); obtain ⟨⟨r0, r1⟩, r2, r3⟩ := K6.out.r; have FN := hid (K6.out.fin (.slice (some ⟨g1, o1, none⟩) n c1) (.int .i64 ((k : Int) + 1))); clear ho6 hb6))
  all_goals
    obtain ⟨hb', hc, hk'⟩ := FN.out
    have H := hid (⟨hb', O6.out.kept (fun q hq => hk' q (by have h1 := F6.out q hq; have h2 := K5.out.size; have h3 : w5.drew.heap.size = w5.heap.size := rfl; omega))⟩ : Below w.heap.size w _ ∧ Offs _ base 30 _ _)
    have d0 := cell_blk1 (i := 0) hc rfl
    have d1 := cell_blk1 (i := 1) hc rfl
    clear hb' hc hk' FN
    generalize (w6.setCell ⟨w.heap.size + 1, 0, none⟩ (.slice (some ⟨g1, o1, none⟩) n c1)).setCell ⟨w.heap.size + 1, 1, none⟩ (.int .i64 ((k : Int) + 1)) = W at *
    go_wp2
    rw [← HV.out]
    refine bodyPost_ret (v := .tuple #[.agg #[.slice (some ⟨g1, o1, none⟩) n c1, .int .i64 ((k : Int) + 1)], .int .u64 v]) (by simp [results, Try.results26, go_sem, d0, d1]) rfl ⟨_, _, by rfl, fun q hq => .inr (by have h1 := F6.out q hq; have h2 := K5.out.size; have h3 : w5.drew.heap.size = w5.heap.size := rfl; omega), H.out.2, H.out.1⟩

set_option maxHeartbeats 4000000 in
theorem rswap_no (k : Nat) (i o x : Int) (base n c : Nat) (a : Option Addr) (xs : List Int) (w : World) (h : Offs w base 30 (.slice a n c) (vals xs)) (hb : base ≤ w.heap.size) (hl : xs.length ≤ 1000) (hk : k ≤ 1000000) (hi0 : 0 ≤ i) (hi : i < xs.length) (hne : xs.getD i.toNat 0 ≠ o) :
    Calls Try.prog 30 #[.agg #[.slice a n c, .int .i64 k], .int .i64 i, .int .u64 o, .int .u64 x] w (RfPost w base n (.slice a n c) (xs.set i.toNat (xs.getD i.toNat 0)) (k + 1) (.bool false)) := by
  have hn : n = xs.length := by obtain ⟨_, _, e⟩ := h.slice; simp only [Value.slice.injEq, vals_len] at e; exact e.2.1
  have K0 := hid (kq_first w k a n c)
  have HO := hid h
  have HN := hid hn
  have hin : i < n := by omega
  clear h hn
  go_enter Try.func30, Try.ntmps30
  go_wp2_with fail
  refine (ris_in k i a n c _ hi0 hin).mono ?_
  rintro e w5 ⟨rfl, hb5⟩
  have K5 := hid (K0.out.next hb5)
  clear hb5 K0
  obtain ⟨⟨r0, r1⟩, r2, r3⟩ := K5.out.r
  obtain ⟨s0, s1⟩ := K5.out.s
  obtain ⟨⟨g, off, rfl, e8, hg⟩, e9, hnc, hcm⟩ := HO.out.pos' (by rw [vals_len]; have := HN.out; omega)
  clear e8 e9
  unfold maxLen at hcm
  have hrow0 := HO.out.at' i.toNat _ (vals_get xs i.toNat (by have := HN.out; omega))
  obtain ⟨v, hv⟩ : ∃ v, v = xs.getD i.toNat 0 := ⟨_, rfl⟩
  rw [← hv] at hrow0
  have hrow : w5.cell? ⟨g, off + i.toNat, none⟩ = some (.int .u64 v) := (K5.out.below.cell (p := ⟨g, off + i.toNat, none⟩) hg).trans hrow0
  have HV := hid hv
  have HR := hid hrow0
  have HG := hid hg
  clear hv hrow0 hg
  have tt : (v != o) = true := by rw [HV.out]; simpa using hne
  have RSS := hid (fun w' u1 u2 (hw : Kq w w' k (some ⟨g, off, none⟩) n c) => (⟨(hw.stored u1 u2).1, (hw.stored u1 u2).2, by
    have := HG.out
    rw [World.cell?_of_block (w := w') (by rw [Below.heap_setCell _ _ _ _ (show g ≠ w.heap.size + 1 by omega), Below.heap_setCell _ _ _ _ (show g ≠ w.heap.size + 1 by omega)])]
    exact (hw.below.cell (p := ⟨g, off + i.toNat, none⟩) HG.out).trans HR.out⟩ : ((w'.setCell ⟨w.heap.size + 1, 0, none⟩ u1).setCell ⟨w.heap.size + 1, 1, none⟩ u2).cell? ⟨w.heap.size, 0, none⟩ = some (.slice (some ⟨g, off, none⟩) n c) ∧ ((w'.setCell ⟨w.heap.size + 1, 0, none⟩ u1).setCell ⟨w.heap.size + 1, 1, none⟩ u2).cell? ⟨w.heap.size, 1, none⟩ = some (.int .i64 k) ∧ ((w'.setCell ⟨w.heap.size + 1, 0, none⟩ u1).setCell ⟨w.heap.size + 1, 1, none⟩ u2).cell? ⟨g, off + i.toNat, none⟩ = some (.int .u64 v)))
  have RS := hid (fun w' (hw : Kq w w' k (some ⟨g, off, none⟩) n c) => (⟨hw.s.1, hw.s.2, (hw.below.cell (p := ⟨g, off + i.toNat, none⟩) HG.out).trans HR.out⟩ : w'.cell? ⟨w.heap.size, 0, none⟩ = some (.slice (some ⟨g, off, none⟩) n c) ∧ w'.cell? ⟨w.heap.size, 1, none⟩ = some (.int .i64 k) ∧ w'.cell? ⟨g, off + i.toNat, none⟩ = some (.int .u64 v)))
  have K5d := hid K5.out.drew
  have SET := hid (rset k i v base n c (some ⟨g, off, none⟩) xs w5.drew (HO.out.kept (fun q hq => K5d.out.below.block q (HO.out.lt q hq).2)) hl hi0 (by have := HN.out; omega) hk)
  go_wp2_with fail
  clear hrow r0 r1 r2 r3 s0 s1 hl
  go_region_held3 (fun w' => w'.cell? ⟨w.heap.size, 0, none⟩ = some (.slice (some ⟨g, off, none⟩) n c) ∧ w'.cell? ⟨w.heap.size, 1, none⟩ = some (.int .i64 k) ∧ w'.cell? ⟨g, off + i.toNat, none⟩ = some (.int .u64 v))
    (first
      | with_reducible exact RS.out _ K5d.out
      | with_reducible exact RS.out _ K6.out
      | with_reducible exact K6S.out _ _)
    (first
      | (go_at_call 34; refine (SET.out).mono ?_; rintro e w6 ⟨g1, o1, c1, rfl, ho6, hb6⟩; have K6 := hid (K5d.out.next hb6); have O6 := hid (ho6.mono' (show base ≤ w5.drew.heap.size by have := K5.out.size; show base ≤ w5.heap.size; omega)); have F6 := hid (fun q hq => (ho6.lt q hq).1); have K6S := hid (fun u1 u2 => RSS.out w6 u1 u2 K6.out); obtain ⟨⟨r0, r1⟩, r2, r3⟩ := K6.out.r; have FN := hid (K6.out.fin (.slice (some ⟨g1, o1, none⟩) n c1) (.int .i64 ((k : Int) + 1))); clear ho6 hb6))
  all_goals
    obtain ⟨hb', hc, hk'⟩ := FN.out
    have H := hid (⟨hb', O6.out.kept (fun q hq => hk' q (by have h1 := F6.out q hq; have h2 := K5.out.size; have h3 : w5.drew.heap.size = w5.heap.size := rfl; omega))⟩ : Below w.heap.size w _ ∧ Offs _ base 30 _ _)
    have d0 := cell_blk1 (i := 0) hc rfl
    have d1 := cell_blk1 (i := 1) hc rfl
    clear hb' hc hk' FN
    generalize (w6.setCell ⟨w.heap.size + 1, 0, none⟩ (.slice (some ⟨g1, o1, none⟩) n c1)).setCell ⟨w.heap.size + 1, 1, none⟩ (.int .i64 ((k : Int) + 1)) = W at *
    go_wp2
    rw [← HV.out]
    refine bodyPost_ret (v := .tuple #[.agg #[.slice (some ⟨g1, o1, none⟩) n c1, .int .i64 ((k : Int) + 1)], .bool false]) (by simp [results, Try.results30, go_sem, d0, d1]) rfl ⟨_, _, by rfl, fun q hq => .inr (by have h1 := F6.out q hq; have h2 := K5.out.size; have h3 : w5.drew.heap.size = w5.heap.size := rfl; omega), H.out.2, H.out.1⟩
end Go.Proofs.Ytdbionbdcjpmaaa
