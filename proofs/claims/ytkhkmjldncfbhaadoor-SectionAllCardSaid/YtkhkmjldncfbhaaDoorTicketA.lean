/- (a seat without Swap) The contracts of package ticket: what each method answers and what it makes of the two words. -/
import Derived.Test.YtkhkmjldncfbhaaDoorMemA
import Derived.Test.YtkhkmjldncfbhaaDoorWraps
import Derived.Deep.RegionWith
namespace Go.Proofs.YtkhkmjldncfbhaaDoor
set_option linter.unusedVariables false
open Go.RowKit

/-- Round 2^64. -/
def U (x : Int) : Int := IntKind.u64.wrap x
/-- A number that a word can hold. -/
def inU (x : Int) : Prop := 0 ≤ x ∧ x ≤ 18446744073709551615
theorem U_inU (x : Int) : inU (U x) := by unfold inU U; rw [u64_wrap]; omega
theorem U_of {x : Int} (h : inU x) : U x = x := by unfold inU at h; unfold U; rw [u64_wrap]; omega
theorem U_U (x : Int) : U (U x) = U x := U_of (U_inU x)
theorem U_add1 (x y : Int) : U (U x + y) = U (x + y) := by unfold U; simp only [u64_wrap]; omega
theorem U_sub_back {t : Int} (h : inU t) : U (U (t + 1) - 1) = t := by unfold inU at h; unfold U; simp only [u64_wrap]; omega
theorem U_sub_zero {t s : Int} (h : inU t) (h' : inU s) : U (t - s) = 0 ↔ t = s := by unfold inU at h h'; unfold U; simp only [u64_wrap]; omega

set_option maxHeartbeats 400000 in
theorem take_in (b g : Nat) (xs : List Int) (c : Nat) (nx sv : Int) (w : World) (hm : Mem w b g xs c) (hc : c < 1000000000) (h0 : 0 ≤ nx) (h1 : nx < xs.length) (t : Int)
    (ht : xs.getD nx.toNat 0 = t) (hu : inU t) :
    Calls Tryd.prog 11 #[.agg #[.int .i64 nx, .int .i64 sv], .pointer (some ⟨b, 0, none⟩)] w fun e w' => e = .returned (.int .u64 t) ∧ Mem w' b g (xs.set nx.toNat (U (t + 1))) (c + 1) ∧ Only b g w w' := by
  have HT := hid ht
  have HU := hid hu
  clear ht hu
  go_enter Tryd.func11, Tryd.ntmps11
  go_wp2_with fail
  refine (add_v b g xs c nx 1 (U (t + 1)) _ (hm.alloc _) hc h0 h1 (by rw [HT.out]; exact (by unfold U; simp only [u64_wrap]; omega))).mono ?_
  rintro e w1 ⟨rfl, hm1, ho1⟩
  go_wp2
  go_ret
  exact ⟨ret_int' (U_sub_back HU.out), hm1, (Only.alloc _ _).trans ho1⟩

set_option maxHeartbeats 400000 in
theorem ahead_in (b g : Nat) (xs : List Int) (c : Nat) (nx sv t : Int) (w : World) (hm : Mem w b g xs c) (hc : c < 1000000000) (h0 : 0 ≤ sv) (h1 : sv < xs.length) (s : Int)
    (hs : xs.getD sv.toNat 0 = s) :
    Calls Tryd.prog 17 #[.agg #[.int .i64 nx, .int .i64 sv], .pointer (some ⟨b, 0, none⟩), .int .u64 t] w fun e w' => e = .returned (.int .u64 (U (t - s))) ∧ Mem w' b g xs (c + 1) ∧ Only b g w w' := by
  have HS := hid hs
  clear hs
  go_enter Tryd.func17, Tryd.ntmps17
  go_wp2_with fail
  refine (load_v b g xs c sv s _ (hm.alloc _) hc h0 h1 HS.out).mono ?_
  rintro e w1 ⟨rfl, hm1, ho1⟩
  go_wp2
  go_ret
  exact ⟨rfl, hm1, (Only.alloc _ _).trans ho1⟩

set_option maxHeartbeats 400000 in
theorem held_in (b g : Nat) (xs : List Int) (c : Nat) (nx sv t : Int) (w : World) (hm : Mem w b g xs c) (hc : c < 1000000000) (h0 : 0 ≤ sv) (h1 : sv < xs.length) (s : Int)
    (hs : xs.getD sv.toNat 0 = s) (r : Bool) (hr : decide (t = s) = r) (ut : inU t) (us : inU s) :
    Calls Tryd.prog 12 #[.agg #[.int .i64 nx, .int .i64 sv], .pointer (some ⟨b, 0, none⟩), .int .u64 t] w fun e w' => e = .returned (.bool r) ∧ Mem w' b g xs (c + 1) ∧ Only b g w w' := by
  have hr' : (U (t - s) == 0) = r := by
    rw [← hr, Bool.eq_iff_iff, beq_iff_eq, decide_eq_true_iff]; exact U_sub_zero ut us
  have HR := hid hr'
  have HS := hid hs
  clear hs hr hr' ut us
  go_enter Tryd.func12, Tryd.ntmps12
  go_wp2_with fail
  refine (ahead_in b g xs c nx sv t _ (hm.alloc _) hc h0 h1 s HS.out).mono ?_
  rintro e w1 ⟨rfl, hm1, ho1⟩
  go_wp2
  go_ret
  exact ⟨ret_bool HR.out.symm, hm1, (Only.alloc _ _).trans ho1⟩

set_option maxHeartbeats 400000 in
theorem free_yes (b g : Nat) (xs : List Int) (c : Nat) (nx sv t : Int) (w : World) (hm : Mem w b g xs c) (hc : c < 999999999) (h0 : 0 ≤ sv) (h1 : sv < xs.length)
    (hs : xs.getD sv.toNat 0 = t) (ut : inU t) :
    Calls Tryd.prog 14 #[.agg #[.int .i64 nx, .int .i64 sv], .pointer (some ⟨b, 0, none⟩), .int .u64 t] w fun e w' => e = .returned (.bool true) ∧ Mem w' b g (xs.set sv.toNat (U (t + 1))) (c + 2) ∧ Only b g w w' := by
  have HS := hid hs
  clear hs
  go_enter Tryd.func14, Tryd.ntmps14
  go_wp2_with fail
  refine (held_in b g xs c nx sv t _ (hm.alloc _) (by omega) h0 h1 t HS.out true (by simp) ut ut).mono ?_
  rintro e w1 ⟨rfl, hm1, ho1⟩
  have hnew := ho1.new hm.sb hm.sg
  have k1 : w1.cell? ⟨w.heap.size, 1, none⟩ = some (.int .i64 sv) := by simp [World.cell?, hnew]
  clear hnew
  go_wp2_with fail
  refine (store_in b g xs (c + 1) sv _ _ hm1 (by omega) h0 h1).mono ?_
  rintro e w2 ⟨rfl, hm2, ho2⟩
  go_wp2
  go_ret
  exact ⟨rfl, hm2, ((Only.alloc _ _).trans ho1).trans ho2⟩

set_option maxHeartbeats 400000 in
theorem free_no (b g : Nat) (xs : List Int) (c : Nat) (nx sv t : Int) (w : World) (hm : Mem w b g xs c) (hc : c < 999999999) (h0 : 0 ≤ sv) (h1 : sv < xs.length) (s : Int)
    (hs : xs.getD sv.toNat 0 = s) (hne : t ≠ s) (ut : inU t) (us : inU s) :
    Calls Tryd.prog 14 #[.agg #[.int .i64 nx, .int .i64 sv], .pointer (some ⟨b, 0, none⟩), .int .u64 t] w fun e w' => e = .returned (.bool false) ∧ Mem w' b g xs (c + 1) ∧ Only b g w w' := by
  have HS := hid hs
  clear hs
  go_enter Tryd.func14, Tryd.ntmps14
  go_wp2_with fail
  refine (held_in b g xs c nx sv t _ (hm.alloc _) (by omega) h0 h1 s HS.out false (by simpa using hne) ut us).mono ?_
  rintro e w1 ⟨rfl, hm1, ho1⟩
  have hnew := ho1.new hm.sb hm.sg
  have k1 : w1.cell? ⟨w.heap.size, 1, none⟩ = some (.int .i64 sv) := by simp [World.cell?, hnew]
  clear hnew
  go_wp2
  go_ret
  exact ⟨rfl, hm1, (Only.alloc _ _).trans ho1⟩

theorem busy_new {b g : Nat} {w w' : World} {o : Obj} (h : Only b g (w.alloc o).drew w') (hb : b < w.heap.size) (hg : g < w.heap.size) : w'.heap[w.heap.size]? = some o :=
  Only.new ((Only.of_quiet ⟨1, rfl⟩).trans h) hb hg

set_option maxHeartbeats 400000 in
theorem busy_in (b g : Nat) (xs : List Int) (c : Nat) (nx sv : Int) (w : World) (hm : Mem w b g xs c) (hc : c < 999999999) (h0 : 0 ≤ sv) (h1 : sv < xs.length) (h2 : 0 ≤ nx) (h3 : nx < xs.length) (s n : Int)
    (hs : xs.getD sv.toNat 0 = s) (hn : xs.getD nx.toNat 0 = n) (r : Bool) (hr : (n != s) = r) :
    Calls Tryd.prog 10 #[.agg #[.int .i64 nx, .int .i64 sv], .pointer (some ⟨b, 0, none⟩)] w fun e w' => e = .returned (.bool r) ∧ Mem w' b g xs (c + 2) ∧ Only b g w w' := by
  have HS := hid hs
  have HN := hid hn
  have HR := hid hr
  clear hs hn hr
  go_enter Tryd.func10, Tryd.ntmps10
  have hsb := hm.sb
  have hsg := hm.sg
  go_wp2_with fail
  go_region_with (first
    | (go_at_call 15; (with_reducible refine (load_v b g xs (c + 1) sv s _ hm1 (by omega) h0 h1 HS.out).mono ?_); rintro e w2 ⟨rfl, hm2, ho2⟩)
    | (go_at_call 15; (with_reducible refine (load_v b g xs c nx n _ (hm.adrew _) (by omega) h2 h3 HN.out).mono ?_); rintro e w1 ⟨rfl, hm1, ho1⟩; have hnew := busy_new ho1 hsb hsg; have k1 : w1.cell? ⟨w.heap.size, 1, none⟩ = some (.int .i64 sv) := (by simp [World.cell?, hnew]); clear hnew))
  all_goals
    go_wp2
    go_ret
    exact ⟨ret_bool HR.out.symm, hm2, (((Only.alloc _ _).trans (Only.of_quiet ⟨1, rfl⟩)).trans ho1).trans ho2⟩
end Go.Proofs.YtkhkmjldncfbhaaDoor
