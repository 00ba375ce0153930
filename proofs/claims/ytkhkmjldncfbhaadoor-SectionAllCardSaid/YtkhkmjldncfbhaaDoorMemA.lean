/- (without Swap, Copy, Same) The contracts of package cell; small words on worlds. -/
import Derived.Test.YtkhkmjldncfbhaaDoorBase
import Derived.WalkKit
import Derived.WalkLawsBesides
import Derived.WalkSpells
import Derived.Below
import Derived.Outline
import Derived.Deep.OwnRows
namespace Go.Proofs.YtkhkmjldncfbhaaDoor
set_option linter.unusedVariables false
open Go.RowKit


/-- A memory: block b is the struct, block g the words (behind them there may be spare room). -/
structure Mem (w : World) (b g : Nat) (xs : List Int) (c : Nat) : Prop where
  h : ∃ cap cur, w.heap[b]? = some (.cells #[.slice (some ⟨g, 0, none⟩) xs.length cap, .int .i64 c] 40 (0, 0)) ∧ w.heap[g]? = some (.cells cur 28 (0, 0)) ∧ xs.length ≤ cap ∧ cap ≤ maxLen ∧ cur.size = cap ∧ cur.toList.take xs.length = xs.map (Value.int .u64)
  ne : b ≠ g
  len : xs.length ≤ 65536
  cnt : c ≤ 1000000000

namespace Mem
variable {w : World} {b g : Nat} {xs : List Int} {c : Nat}
theorem c0 (h : Mem w b g xs c) : ∃ cap, w.cell? ⟨b, 0, none⟩ = some (.slice (some ⟨g, 0, none⟩) xs.length cap) ∧ xs.length ≤ cap ∧ cap ≤ maxLen := by
  obtain ⟨cap, cur, hb, hg, h1, h2, h3, h4⟩ := h.h
  exact ⟨cap, by simp [World.cell?, hb], h1, h2⟩
theorem c1 (h : Mem w b g xs c) : w.cell? ⟨b, 1, none⟩ = some (.int .i64 c) := by
  obtain ⟨cap, cur, hb, hg, h1, h2, h3, h4⟩ := h.h
  simp [World.cell?, hb]
theorem f1 (h : Mem w b g xs c) (i : Nat) : w.frozen? ⟨b, i, none⟩ = false := by
  obtain ⟨cap, cur, hb, hg, h1, h2, h3, h4⟩ := h.h
  simp [World.frozen?, hb]
theorem fg (h : Mem w b g xs c) (i : Nat) : w.frozen? ⟨g, i, none⟩ = false := by
  obtain ⟨cap, cur, hb, hg, h1, h2, h3, h4⟩ := h.h
  simp [World.frozen?, hg]
theorem cg (h : Mem w b g xs c) (i : Nat) (hi : i < xs.length) : w.cell? ⟨g, i, none⟩ = some (.int .u64 (xs.getD i 0)) := by
  obtain ⟨cap, cur, hb, hg, h1, h2, h3, h4⟩ := h.h
  have e : (cur.toList.take xs.length)[i]? = cur.toList[i]? := by rw [List.getElem?_take, if_pos hi]
  rw [h4] at e
  have e' : w.cell? ⟨g, i, none⟩ = cur.toList[i]? := by simp [World.cell?, hg]
  rw [e', ← e]
  simp [hi]
theorem sb (h : Mem w b g xs c) : b < w.heap.size := by
  obtain ⟨cap, cur, hb, hg, h1, h2, h3, h4⟩ := h.h
  rw [Array.getElem?_eq_some_iff] at hb; exact hb.1
theorem sg (h : Mem w b g xs c) : g < w.heap.size := by
  obtain ⟨cap, cur, hb, hg, h1, h2, h3, h4⟩ := h.h
  rw [Array.getElem?_eq_some_iff] at hg; exact hg.1
/-- A memory stays while its two blocks stay. -/
theorem kept (h : Mem w b g xs c) {w' : World} (hb : w'.heap[b]? = w.heap[b]?) (hg : w'.heap[g]? = w.heap[g]?) : Mem w' b g xs c := by
  obtain ⟨cap, cur, hb', hg', h1⟩ := h.h
  exact ⟨⟨cap, cur, hb.trans hb', hg.trans hg', h1⟩, h.ne, h.len, h.cnt⟩
theorem other (h : Mem w b g xs c) {b' g' : Nat} {w' : World} (ho : Only b' g' w w') (h1 : b ≠ b') (h2 : b ≠ g') (h3 : g ≠ b') (h4 : g ≠ g') : Mem w' b g xs c :=
  h.kept (ho.block _ h.sb h1 h2) (ho.block _ h.sg h3 h4)
theorem below (h : Mem w b g xs c) {B : Nat} {w' : World} (ho : Below B w w') (h1 : b < B) (h2 : g < B) : Mem w' b g xs c :=
  h.kept (ho.block _ h1) (ho.block _ h2)
end Mem

theorem set_b {w : World} {b g : Nat} {xs : List Int} {c : Nat} (h : Mem w b g xs c) (c' : Nat) (hc : c' ≤ 1000000000) :
    Mem (w.setCell ⟨b, 1, none⟩ (.int .i64 c')) b g xs c' ∧ Only b g w (w.setCell ⟨b, 1, none⟩ (.int .i64 c')) := by
  obtain ⟨cap, cur, hb, hg, h1, h2, h3, h4⟩ := h.h
  refine ⟨⟨⟨cap, cur, ?_, ?_, h1, h2, h3, h4⟩, h.ne, h.len, hc⟩, ⟨rfl, rfl, rfl, by simp [World.setCell], fun k _ h1 _ => Below.heap_setCell _ _ _ _ h1⟩⟩
  · simp [World.setCell, Array.getElem?_modify, hb]
  · rw [Below.heap_setCell _ _ _ _ (Ne.symm h.ne)]; exact hg
theorem set_g {w : World} {b g : Nat} {xs : List Int} {c : Nat} (h : Mem w b g xs c) (i : Nat) (x : Int) :
    Mem (w.setCell ⟨g, i, none⟩ (.int .u64 x)) b g (xs.set i x) c ∧ Only b g w (w.setCell ⟨g, i, none⟩ (.int .u64 x)) := by
  obtain ⟨cap, cur, hb, hg, h1, h2, h3, h4⟩ := h.h
  refine ⟨⟨⟨cap, cur.setIfInBounds i (.int .u64 x), ?_, ?_, by simpa using h1, h2, by simpa using h3, ?_⟩, h.ne, by simpa using h.len, h.cnt⟩, ⟨rfl, rfl, rfl, by simp [World.setCell], fun k _ _ h2 => Below.heap_setCell _ _ _ _ h2⟩⟩
  · rw [Below.heap_setCell _ _ _ _ h.ne]; simpa using hb
  · simp [World.setCell, Array.getElem?_modify, hg]
  · simp only [Array.toList_setIfInBounds, List.length_set, List.take_set, h4, List.map_set]

set_option maxHeartbeats 400000 in
theorem len_any (b g : Nat) (xs : List Int) (c : Nat) (w : World) (hm : Mem w b g xs c) :
    Calls Tryd.prog 21 #[.pointer (some ⟨b, 0, none⟩)] w fun e w' => e = .returned (.int .i64 xs.length) ∧ w = w' := by
  obtain ⟨cap, h0, _, _⟩ := hm.c0
  go_enter Tryd.func21, Tryd.ntmps21
  go_wp2
  go_ret
  exact ⟨rfl, rfl⟩

set_option maxHeartbeats 400000 in
theorem access_in (b g : Nat) (xs : List Int) (c : Nat) (i : Int) (w : World) (hm : Mem w b g xs c) (hi0 : 0 ≤ i) (hi : i < xs.length) :
    Calls Tryd.prog 20 #[.pointer (some ⟨b, 0, none⟩), .int .i64 i] w fun e w' => e = .returned (.bool true) ∧ w' = w.setCell ⟨b, 1, none⟩ (.int .i64 (c + 1)) := by
  have h1 := hm.c1
  have hf := hm.f1
  have hl := hm.len
  have hc := hm.cnt
  go_enter Tryd.func20, Tryd.ntmps20
  go_wp2_with (go_at_call 21; refine (len_any _ _ _ _ _ hm).mono ?_; rintro e w' ⟨rfl, rfl⟩)
  go_ret
  exact ⟨rfl, rfl⟩

set_option maxHeartbeats 400000 in
theorem access_out (b g : Nat) (xs : List Int) (c : Nat) (i : Int) (w : World) (hm : Mem w b g xs c) (hi : i < 0 ∨ xs.length ≤ i) :
    Calls Tryd.prog 20 #[.pointer (some ⟨b, 0, none⟩), .int .i64 i] w fun e w' => e = .returned (.bool false) ∧ w = w' := by
  have hl := hm.len
  rcases hi with hi | hi
  all_goals
    go_enter Tryd.func20, Tryd.ntmps20
    go_wp2_with (go_at_call 21; refine (len_any _ _ _ _ _ hm).mono ?_; rintro e w' ⟨rfl, rfl⟩)
    go_ret
    exact ⟨rfl, rfl⟩

theorem acc (b g : Nat) (xs : List Int) (c : Nat) (i : Int) (w : World) (hm : Mem w b g xs c) (hc : c < 1000000000) (hi0 : 0 ≤ i) (hi : i < xs.length) :
    Calls Tryd.prog 20 #[.pointer (some ⟨b, 0, none⟩), .int .i64 i] w fun e w' => e = .returned (.bool true) ∧ Mem w' b g xs (c + 1) ∧ Only b g w w' :=
  (access_in b g xs c i w hm hi0 hi).mono fun _ _ ⟨he, hw⟩ => by
    subst hw; exact ⟨he, set_b hm (c + 1) (by omega)⟩

set_option maxHeartbeats 400000 in
theorem load_in (b g : Nat) (xs : List Int) (c : Nat) (i : Int) (w : World) (hm : Mem w b g xs c) (hc : c < 1000000000) (hi0 : 0 ≤ i) (hi : i < xs.length) :
    Calls Tryd.prog 15 #[.pointer (some ⟨b, 0, none⟩), .int .i64 i] w fun e w' => e = .returned (.int .u64 (xs.getD i.toNat 0)) ∧ Mem w' b g xs (c + 1) ∧ Only b g w w' := by
  have hl := hm.len
  obtain ⟨v, hv⟩ : ∃ v, v = xs.getD i.toNat 0 := ⟨_, rfl⟩
  rw [← hv]
  have HV := hid hv
  clear hv
  go_enter Tryd.func15, Tryd.ntmps15
  go_wp2_with fail
  refine (acc b g xs c i _ hm hc hi0 hi).mono ?_
  rintro e w' ⟨rfl, hm', ho⟩
  obtain ⟨cap, h0, _, _⟩ := hm'.c0
  have hg := hm'.cg i.toNat (by omega)
  rw [← HV.out] at hg
  go_wp2
  go_ret
  exact ⟨rfl, hm', ho⟩

set_option maxHeartbeats 400000 in
theorem load_out (b g : Nat) (xs : List Int) (c : Nat) (i : Int) (w : World) (hm : Mem w b g xs c) (hi : i < 0 ∨ xs.length ≤ i) :
    Calls Tryd.prog 15 #[.pointer (some ⟨b, 0, none⟩), .int .i64 i] w fun e w' => e = .returned (.int .u64 0) ∧ w = w' := by
  go_enter Tryd.func15, Tryd.ntmps15
  go_wp2_with (go_at_call 20; refine (access_out b g xs c i _ hm hi).mono ?_; rintro e w' ⟨rfl, rfl⟩)
  go_ret
  exact ⟨rfl, rfl⟩

set_option maxHeartbeats 400000 in
theorem store_in (b g : Nat) (xs : List Int) (c : Nat) (i x : Int) (w : World) (hm : Mem w b g xs c) (hc : c < 1000000000) (hi0 : 0 ≤ i) (hi : i < xs.length) :
    Calls Tryd.prog 19 #[.pointer (some ⟨b, 0, none⟩), .int .i64 i, .int .u64 x] w fun e w' => e = .returned (.bool true) ∧ Mem w' b g (xs.set i.toNat x) (c + 1) ∧ Only b g w w' := by
  have hl := hm.len
  go_enter Tryd.func19, Tryd.ntmps19
  go_wp2_with fail
  refine (acc b g xs c i _ hm hc hi0 hi).mono ?_
  rintro e w' ⟨rfl, hm', ho⟩
  obtain ⟨cap, h0, _, _⟩ := hm'.c0
  have hg := hm'.cg i.toNat (by omega)
  have hf := hm'.fg
  go_wp2
  go_ret
  exact ⟨rfl, (set_g hm' _ _).1, ho.trans (set_g hm' _ _).2⟩

set_option maxHeartbeats 400000 in
theorem store_out (b g : Nat) (xs : List Int) (c : Nat) (i x : Int) (w : World) (hm : Mem w b g xs c) (hi : i < 0 ∨ xs.length ≤ i) :
    Calls Tryd.prog 19 #[.pointer (some ⟨b, 0, none⟩), .int .i64 i, .int .u64 x] w fun e w' => e = .returned (.bool false) ∧ w = w' := by
  go_enter Tryd.func19, Tryd.ntmps19
  go_wp2_with (go_at_call 20; refine (access_out b g xs c i _ hm hi).mono ?_; rintro e w' ⟨rfl, rfl⟩)
  go_ret
  exact ⟨rfl, rfl⟩

set_option maxHeartbeats 400000 in
theorem add_in (b g : Nat) (xs : List Int) (c : Nat) (i d : Int) (w : World) (hm : Mem w b g xs c) (hc : c < 1000000000) (hi0 : 0 ≤ i) (hi : i < xs.length) :
    Calls Tryd.prog 16 #[.pointer (some ⟨b, 0, none⟩), .int .i64 i, .int .i64 d] w fun e w' => e = .returned (.int .u64 (IntKind.u64.wrap (xs.getD i.toNat 0 + IntKind.u64.wrap d))) ∧ Mem w' b g (xs.set i.toNat (IntKind.u64.wrap (xs.getD i.toNat 0 + IntKind.u64.wrap d))) (c + 1) ∧ Only b g w w' := by
  have hl := hm.len
  have hne := hm.ne
  obtain ⟨v, hv⟩ : ∃ v, v = xs.getD i.toNat 0 := ⟨_, rfl⟩
  rw [← hv]
  have HV := hid hv
  clear hv
  go_enter Tryd.func16, Tryd.ntmps16
  go_wp2_with fail
  refine (acc b g xs c i _ hm hc hi0 hi).mono ?_
  rintro e w' ⟨rfl, hm', ho⟩
  obtain ⟨cap, h0, _, _⟩ := hm'.c0
  have hg := hm'.cg i.toNat (by omega)
  rw [← HV.out] at hg
  have hf := hm'.fg
  go_wp2
  go_ret
  exact ⟨rfl, (set_g hm' _ _).1, ho.trans (set_g hm' _ _).2⟩
theorem infoU64 : (Tryd.prog.info? 28).map (fun i => (i.zero, i.size, i.bytes)) = some (some (.int .u64 0), 1, 8) := by kernel_rfl

theorem made_u64 (k : Nat) : madeCells #[Value.int .u64 0] k = ((List.replicate k (0 : Int)).map (Value.int .u64)).toArray := by
  apply Array.ext'
  rw [toList_madeCells_one]; simp

theorem new_world (w : World) (k : Nat) (hk : k ≤ 65536) (w' : World)
    (hw : w' = (w.alloc (.cells (madeCells #[Value.int .u64 0] k) 28)).alloc (.cells #[.slice (some ⟨w.heap.size, 0, none⟩) k k, .int .i64 0] 40)) :
    Mem w' (w.heap.size + 1) w.heap.size (List.replicate k 0) 0 ∧ Below w.heap.size w w' ∧ w'.heap.size = w.heap.size + 2 := by
  subst hw
  have hk63 : k ≤ maxLen := by unfold maxLen; omega
  refine ⟨⟨⟨k, madeCells #[Value.int .u64 0] k, ?_, ?_, by simp, hk63, by rw [made_u64]; simp, by rw [made_u64]; simp⟩, by omega, by simpa using hk, by omega⟩, ((Below.refl _ _).alloc (Nat.le_refl _) _).alloc (by simp) _, by simp⟩
  · have h := Deep.blk_alloc_new (w.alloc (.cells (madeCells #[Value.int .u64 0] k) 28)) (.cells #[.slice (some ⟨w.heap.size, 0, none⟩) k k, .int .i64 0] 40)
    simpa using h
  · rw [Below.heap_alloc _ _ _ (by simp)]; exact Deep.blk_alloc_new _ _

set_option maxHeartbeats 400000 in
theorem new_any (n : Int) (k : Nat) (hk : (k : Int) = min (max n 0) 65536) (w : World) :
    Calls Tryd.prog 5 #[.int .i64 n] w fun e w' => e = .returned (.pointer (some ⟨w.heap.size + 1, 0, none⟩)) ∧ Mem w' (w.heap.size + 1) w.heap.size (List.replicate k 0) 0 ∧ Below w.heap.size w w' ∧ w'.heap.size = w.heap.size + 2 := by
  have hk' : k ≤ 65536 := by omega
  have hmk := run_make_row' (P := Tryd.prog) 38 28 (.int .u64 0) 8 Tryd.underlying38 infoU64 rfl .i64 .i64
  by_cases h1 : n < 0
  · obtain rfl : k = 0 := by omega
    have hm0 := hmk 0 (by omega) (by omega)
    clear hmk hk
    simp only [Int.natCast_zero] at hm0
    go_enter Tryd.func5, Tryd.ntmps5
    go_wp2
    go_ret
    exact ⟨rfl, new_world _ _ (by omega) _ rfl⟩
  · by_cases h2 : n ≤ 65536
    · obtain rfl : n = k := by omega
      have hm0 := hmk k (by omega) (by omega)
      clear hmk hk
      go_enter Tryd.func5, Tryd.ntmps5
      go_wp2
      go_ret
      exact ⟨rfl, new_world _ _ (by omega) _ rfl⟩
    · have hm0 : ∀ w : World, Sem.run Tryd.prog (Instr.makeSlice 38 (Value.int .i64 65536) (Value.int .i64 65536)) w = Result.ok (Value.slice (some ⟨w.heap.size, 0, none⟩) k k) (w.alloc (Obj.cells (madeCells #[Value.int .u64 0] k) 28)) := by
        have h3 : (k : Int) = 65536 := by omega
        intro w
        have := hmk k (by omega) (by omega) w
        rw [h3] at this
        exact this
      clear hmk hk
      go_enter Tryd.func5, Tryd.ntmps5
      go_wp2
      go_ret
      exact ⟨rfl, new_world _ _ hk' _ rfl⟩

theorem new_ex (n : Int) (k : Nat) (hk : (k : Int) = min (max n 0) 65536) (w : World) :
    Calls Tryd.prog 5 #[.int .i64 n] w fun e w' => ∃ b g, e = .returned (.pointer (some ⟨b, 0, none⟩)) ∧ Mem w' b g (List.replicate k 0) 0 ∧ w.heap.size ≤ b ∧ w.heap.size ≤ g ∧ Below w.heap.size w w' :=
  (new_any n k hk w).mono fun _ _ ⟨he, hm, hb, _⟩ => ⟨_, _, he, hm, by omega, by omega, hb⟩

theorem Mem.quiet {w : World} {b g : Nat} {xs : List Int} {c : Nat} (h : Mem w b g xs c) {w' : World} (q : Quiet w w') : Mem w' b g xs c :=
  h.kept (by rw [q.heap]) (by rw [q.heap])

theorem ret_bool {a b : Bool} (h : b = a) : Ending.returned (.bool a) = .returned (.bool b) := by rw [h]
theorem load_v (b g : Nat) (xs : List Int) (c : Nat) (i v : Int) (w : World) (hm : Mem w b g xs c) (hc : c < 1000000000) (hi0 : 0 ≤ i) (hi : i < xs.length) (hv : xs.getD i.toNat 0 = v) :
    Calls Tryd.prog 15 #[.pointer (some ⟨b, 0, none⟩), .int .i64 i] w fun e w' => e = .returned (.int .u64 v) ∧ Mem w' b g xs (c + 1) ∧ Only b g w w' := by
  subst hv
  exact load_in b g xs c i w hm hc hi0 hi
theorem add_v (b g : Nat) (xs : List Int) (c : Nat) (i d v : Int) (w : World) (hm : Mem w b g xs c) (hc : c < 1000000000) (hi0 : 0 ≤ i) (hi : i < xs.length) (hv : IntKind.u64.wrap (xs.getD i.toNat 0 + IntKind.u64.wrap d) = v) :
    Calls Tryd.prog 16 #[.pointer (some ⟨b, 0, none⟩), .int .i64 i, .int .i64 d] w fun e w' => e = .returned (.int .u64 v) ∧ Mem w' b g (xs.set i.toNat v) (c + 1) ∧ Only b g w w' := by
  subst hv
  exact add_in b g xs c i d w hm hc hi0 hi
theorem getD_set_eq {xs : List Int} {i : Nat} {v : Int} (h : i < xs.length) : (xs.set i v).getD i 0 = v := by
  simp [List.getD_eq_getElem?_getD, h]
theorem getD_set_ne {xs : List Int} {i j : Nat} {v : Int} (h : i ≠ j) : (xs.set i v).getD j 0 = xs.getD j 0 := by
  simp [h]
theorem getD_replicate0 (k j : Nat) : (List.replicate k (0 : Int)).getD j 0 = 0 := by
  simp [List.getD_eq_getElem?_getD, List.getElem?_replicate]; split <;> rfl
theorem new_z (n : Int) (k : Nat) (hk : (k : Int) = min (max n 0) 65536) (w : World) :
    Calls Tryd.prog 5 #[.int .i64 n] w fun e w' => ∃ b g xs, e = .returned (.pointer (some ⟨b, 0, none⟩)) ∧ Mem w' b g xs 0 ∧ xs.length = k ∧ (∀ j, xs.getD j 0 = 0) ∧ w.heap.size ≤ b ∧ w.heap.size ≤ g ∧ Below w.heap.size w w' :=
  (new_ex n k hk w).mono fun _ _ ⟨b, g, he, hm, hb, hg, h⟩ => ⟨b, g, List.replicate k 0, he, hm, by simp, getD_replicate0 k, hb, hg, h⟩



theorem Only.of_below {b g : Nat} {w w' : World} (h : Below w.heap.size w w') : Only b g w w' := ⟨h.os, h.tape, h.output, h.size, fun k hk _ _ => h.block k hk⟩
theorem Only.of_quiet {b g : Nat} {w w' : World} (h : Quiet w w') : Only b g w w' := .of_below (h.below _)
theorem Only.alloc {b g : Nat} (w : World) (o : Obj) : Only b g w (w.alloc o) := .of_below ((Below.refl _ _).alloc (Nat.le_refl _) _)
theorem Mem.alloc {w : World} {b g : Nat} {xs : List Int} {c : Nat} (h : Mem w b g xs c) (o : Obj) : Mem (w.alloc o) b g xs c :=
  h.below ((Below.refl _ _).alloc (Nat.le_refl _) _) h.sb h.sg

theorem Mem.adrew {w : World} {b g : Nat} {xs : List Int} {c : Nat} (h : Mem w b g xs c) (o : Obj) : Mem (w.alloc o).drew b g xs c :=
  (h.alloc o).quiet ⟨1, rfl⟩

/-- The block that a call by value lays is there behind a call that turns others. -/
theorem Only.new {b g : Nat} {w w' : World} {o : Obj} (h : Only b g (w.alloc o) w') (hb : b < w.heap.size) (hg : g < w.heap.size) : w'.heap[w.heap.size]? = some o := by
  rw [h.block _ (by simp) (by omega) (by omega)]; exact Deep.blk_alloc_new _ _

theorem ret_int' {k : IntKind} {a b : Int} (h : a = b) : Ending.returned (.int k a) = .returned (.int k b) := by rw [h]
theorem Only.keep {b g p : Nat} {w w' : World} {o : Obj} (h : Only b g w w') (hp : w.heap[p]? = some o) (h1 : p ≠ b) (h2 : p ≠ g) : w'.heap[p]? = some o := by
  rw [h.block p (by rw [Array.getElem?_eq_some_iff] at hp; exact hp.1) h1 h2]; exact hp
theorem cell_of_blk {w : World} {p i : Nat} {cs : Array Value} {t : TypeId} {v : Value} (h : w.heap[p]? = some (.cells cs t (0, 0))) (hi : cs[i]? = some v) : w.cell? ⟨p, i, none⟩ = some v := by
  simp [World.cell?, h, hi]
theorem free_of_blk {w : World} {p i : Nat} {cs : Array Value} {t : TypeId} (h : w.heap[p]? = some (.cells cs t (0, 0))) : w.frozen? ⟨p, i, none⟩ = false := by
  simp [World.frozen?, h]
theorem Mem.drew {w : World} {b g : Nat} {xs : List Int} {c : Nat} (h : Mem w b g xs c) : Mem w.drew b g xs c := h.quiet ⟨1, rfl⟩
theorem keep_drew {b g p : Nat} {w w' : World} {o : Obj} (h : Only b g w.drew w') (hp : w.heap[p]? = some o) (h1 : p ≠ b) (h2 : p ≠ g) : w'.heap[p]? = some o :=
  Only.keep h (w := w.drew) hp h1 h2
theorem only_drew {b g : Nat} {w w' : World} (h : Only b g w.drew w') : Only b g w w' := (Only.of_quiet ⟨1, rfl⟩).trans h
theorem Mem.setOther {w : World} {b g p i : Nat} {xs : List Int} {c : Nat} {v : Value} (h : Mem w b g xs c) (h1 : p ≠ b) (h2 : p ≠ g) : Mem (w.setCell ⟨p, i, none⟩ v) b g xs c :=
  h.kept (Below.heap_setCell _ _ _ _ (Ne.symm h1)) (Below.heap_setCell _ _ _ _ (Ne.symm h2))
theorem set_same {bs : List Bool} {j : Nat} {r : Bool} (h : r = bs.getD j false) (hj : j < bs.length) : bs.set j r = bs := by
  subst h
  apply List.ext_getElem (by simp)
  intro i h1 h2
  rw [List.getElem_set]
  split
  · rename_i he; subst he; simp [hj]
  · rfl


end Go.Proofs.YtkhkmjldncfbhaaDoor
