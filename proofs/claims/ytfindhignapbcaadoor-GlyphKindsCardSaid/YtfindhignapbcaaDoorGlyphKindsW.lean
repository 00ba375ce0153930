/- The walk of the statement GlyphKinds: the law answers true and turns nothing that was there. -/
import Derived.Test.YtfindhignapbcaaDoorGlyph3
import Derived.OpenShut
namespace Go.Proofs.YtfindhignapbcaaDoor.glyphKinds
open Go.RowKit
set_option linter.unusedVariables false
set_option linter.unusedSimpArgs false

theorem kind_hit (x : Int) (q : Nat) (hq : q < 8) (h : IsKind x q) (w : World) (R : GlRunes w) : Calls Tryd.prog 8 #[.int .i32 x] w fun e w' => e = .returned (.tuple #[.int .i64 q, .bool true]) ∧ w' = w := by
  have := kind_any x q (by omega) h w R
  rw [if_pos hq, decide_eq_true hq] at this
  exact this
theorem kind_miss (x : Int) (h : IsKind x 8) (w : World) (R : GlRunes w) : Calls Tryd.prog 8 #[.int .i32 x] w fun e w' => e = .returned (.tuple #[.int .i64 0, .bool false]) ∧ w' = w :=
  kind_any x 8 (by omega) h w R
theorem rune_inj : ∀ i j : Nat, i < 8 → j < 8 → glRune0 i = glRune0 j → i = j := by
  intro i j hi hj h
  match i, hi, j, hj with
  | 0, _, j, hj => match j, hj with
    | 0, _ | 1, _ | 2, _ | 3, _ | 4, _ | 5, _ | 6, _ | 7, _ => first | rfl | exact absurd h (by decide)
  | 1, _, j, hj => match j, hj with
    | 0, _ | 1, _ | 2, _ | 3, _ | 4, _ | 5, _ | 6, _ | 7, _ => first | rfl | exact absurd h (by decide)
  | 2, _, j, hj => match j, hj with
    | 0, _ | 1, _ | 2, _ | 3, _ | 4, _ | 5, _ | 6, _ | 7, _ => first | rfl | exact absurd h (by decide)
  | 3, _, j, hj => match j, hj with
    | 0, _ | 1, _ | 2, _ | 3, _ | 4, _ | 5, _ | 6, _ | 7, _ => first | rfl | exact absurd h (by decide)
  | 4, _, j, hj => match j, hj with
    | 0, _ | 1, _ | 2, _ | 3, _ | 4, _ | 5, _ | 6, _ | 7, _ => first | rfl | exact absurd h (by decide)
  | 5, _, j, hj => match j, hj with
    | 0, _ | 1, _ | 2, _ | 3, _ | 4, _ | 5, _ | 6, _ | 7, _ => first | rfl | exact absurd h (by decide)
  | 6, _, j, hj => match j, hj with
    | 0, _ | 1, _ | 2, _ | 3, _ | 4, _ | 5, _ | 6, _ | 7, _ => first | rfl | exact absurd h (by decide)
  | 7, _, j, hj => match j, hj with
    | 0, _ | 1, _ | 2, _ | 3, _ | 4, _ | 5, _ | 6, _ | 7, _ => first | rfl | exact absurd h (by decide)
theorem isKind_own (j : Nat) (hj : j < 8) : IsKind (glRune0 j) j := ⟨fun m hm h => by have := rune_inj m j (by omega) hj h; omega, fun _ => rfl⟩
theorem isKind_ex (x : Int) : ∃ q, q ≤ 8 ∧ IsKind x q := by
  have go : ∀ n, n ≤ 8 → (∃ q, q ≤ 8 ∧ IsKind x q) ∨ ∀ m, m < n → glRune0 m ≠ x := by
    intro n
    induction n with
    | zero => intro _; exact .inr (fun m hm => by omega)
    | succ n ih =>
      intro hn
      rcases ih (by omega) with h | h
      · exact .inl h
      · by_cases hx : glRune0 n = x
        · exact .inl ⟨n, by omega, h, fun _ => hx⟩
        · exact .inr fun m hm => by
            by_cases hmn : m = n
            · rw [hmn]; exact hx
            · exact h m (by omega)
  rcases go 8 (by omega) with h | h
  · exact h
  · exact ⟨8, by omega, h, fun h => by omega⟩
theorem text_ne (k : Nat) (hk : k < 8) : ((glText k).toList == (({ data := #[] } : ByteArray)).toList) = false :=
  match k, hk with
  | 0, _ => txt_ne (by decide)
  | 1, _ => txt_ne (by decide)
  | 2, _ => txt_ne (by decide)
  | 3, _ => txt_ne (by decide)
  | 4, _ => txt_ne (by decide)
  | 5, _ => txt_ne (by decide)
  | 6, _ => txt_ne (by decide)
  | 7, _ => txt_ne (by decide)
theorem text_some (k : Nat) (hk : k < 8) : (glText k).toList.isEmpty = false :=
  match k, hk with
  | 0, _ => by rw [ByteArray.toList_eq]; rfl
  | 1, _ => by rw [ByteArray.toList_eq]; rfl
  | 2, _ => by rw [ByteArray.toList_eq]; rfl
  | 3, _ => by rw [ByteArray.toList_eq]; rfl
  | 4, _ => by rw [ByteArray.toList_eq]; rfl
  | 5, _ => by rw [ByteArray.toList_eq]; rfl
  | 6, _ => by rw [ByteArray.toList_eq]; rfl
  | 7, _ => by rw [ByteArray.toList_eq]; rfl
set_option maxHeartbeats 8000000 in
set_option maxRecDepth 100000 in
theorem w11 (k : Nat) (hk : k < 8) (x : Int) (q : Nat) (hq : q < 8) (hK : IsKind x q) (w : World) (R : GlRunes w) (T : PwTab w) :
    Calls Tryd.prog 3 #[.int .i64 k, .int .i32 x] w fun e w' => e = .returned (.bool true) ∧ Below w.heap.size w w' := by
  have LV := hid (lives16 w R T)
  have HR := hid R
  have HK := hid hK
  obtain ⟨y, hy⟩ : ∃ y, y = glRune0 k := ⟨_, rfl⟩
  have RI := hid (fun (w : World) R => rune_in k hk w R)
  have KI := hid (fun (w : World) => rkind_in k w hk)
  have ET := hid (enc_text k hk)
  have tn := text_ne k hk
  have tn2 := text_some k hk
  have te := txt_eq (glText k)
  rw [← hy] at RI ET
  clear hy hk
  have KX := hid (fun (w : World) R => kind_hit x q hq HK.out w R)
  clear R T hK
  go_enter Tryd.func3, Tryd.ntmps3
  go_wp2_with fail
  refine LV.out.mono ?_
  rintro e w2 ⟨rfl, hb⟩
  have B2 := hid hb
  have R2 := hid (HR.out.at hb)
  clear hb LV
  go_wp2_with fail
  refine (RI.out _ R2.out).mono ?_
  rintro e w3 ⟨rfl, rfl⟩
  go_wp2_with fail
  refine (KI.out _).mono ?_
  rintro e w4 ⟨rfl, rfl⟩
  have E1 := ET.out
  go_wp2_with fail
  refine (KX.out _ R2.out).mono ?_
  rintro e w5 ⟨rfl, rfl⟩
  clear KI RI KX E1 ET tn tn2 te
  obtain ⟨wf, hwf⟩ : ∃ wf : World, wf = w5 := ⟨_, rfl⟩
  go_wp2_with fail
  go_loopw [50] (fun i wr => ∃ (j : Nat), j ≤ q ∧ i = .int .i64 j ∧ wr = w5) (fun i _ => 8 - (intOf i).toNat)
  case atStart => exact ⟨0, by omega, rfl, rfl⟩
  case round =>
    obtain ⟨j, hj, rfl, rfl⟩ := hrel
    by_cases h8 : j < 8
    · have h8I : (j : Int) < 8 := by omega
      obtain ⟨y2, hy2⟩ : ∃ y, y = glRune0 j := ⟨_, rfl⟩
      have RI := hid (fun (w : World) R => rune_in j h8 w R)
      have KI := hid (fun (w : World) => rkind_in j w h8)
      have KO := hid (fun (w : World) R => kind_hit (glRune0 j) j h8 (isKind_own j h8) w R)
      have E2 := enc_text j h8
      rw [← hy2] at RI KO E2
      have HE := hid E2
      have te2 := txt_eq (glText j)
      have tj : ((j : Int) != j) = false := by simp
      by_cases hx : glRune0 j = x
      · have hjq : j = q := by rcases Nat.lt_or_ge j q with h | h; exact absurd hx (HK.out.1 j h); omega
        subst hjq
        have t1 : (x == y2) = true := by rw [hy2, hx]; simp
        have t2 : ((j : Int) == j) = true := by simp
        clear hx hy2 E2
        go_wp2_with fail
        refine (RI.out _ R2.out).mono ?_
        rintro e w6 ⟨rfl, rfl⟩
        go_wp2_with fail
        refine (KO.out _ R2.out).mono ?_
        rintro e w7 ⟨rfl, rfl⟩
        go_wp2_with fail
        refine (KI.out _).mono ?_
        rintro e w8 ⟨rfl, rfl⟩
        have E3 := HE.out
        go_wp2
        go_ret
        exact ⟨rfl, B2.out⟩
      · have t1 : (x == y2) = false := by rw [hy2]; exact beq_eq_false_iff_ne.2 (fun h => hx h.symm)
        have HJ := hid (show j + 1 ≤ q by rcases Nat.lt_or_ge j q with h | h; exact h; exact absurd (by have := HK.out.2 hq; rw [show j = q by omega]; exact this) hx)
        clear hx hy2 E2
        go_wp2_with fail
        refine (RI.out _ R2.out).mono ?_
        rintro e w6 ⟨rfl, rfl⟩
        go_wp2_with fail
        refine (KO.out _ R2.out).mono ?_
        rintro e w7 ⟨rfl, rfl⟩
        go_wp2_with fail
        refine (KI.out _).mono ?_
        rintro e w8 ⟨rfl, rfl⟩
        have E3 := HE.out
        go_wp2
        go_roundw
        case rel => exact ⟨j + 1, HJ.out, by go_num, by first | rfl | trivial⟩
        case measure => simp [intOf]; omega
    · exact absurd hj (by omega)
set_option maxHeartbeats 8000000 in
set_option maxRecDepth 100000 in
theorem w10 (k : Nat) (hk : k < 8) (x : Int) (hK : IsKind x 8) (w : World) (R : GlRunes w) (T : PwTab w) :
    Calls Tryd.prog 3 #[.int .i64 k, .int .i32 x] w fun e w' => e = .returned (.bool true) ∧ Below w.heap.size w w' := by
  have LV := hid (lives16 w R T)
  have HR := hid R
  have HK := hid hK
  obtain ⟨y, hy⟩ : ∃ y, y = glRune0 k := ⟨_, rfl⟩
  have RI := hid (fun (w : World) R => rune_in k hk w R)
  have KI := hid (fun (w : World) => rkind_in k w hk)
  have ET := hid (enc_text k hk)
  have tn := text_ne k hk
  have tn2 := text_some k hk
  have te := txt_eq (glText k)
  rw [← hy] at RI ET
  clear hy hk
  have KX := hid (fun (w : World) R => kind_miss x HK.out w R)
  clear R T hK
  go_enter Tryd.func3, Tryd.ntmps3
  go_wp2_with fail
  refine LV.out.mono ?_
  rintro e w2 ⟨rfl, hb⟩
  have B2 := hid hb
  have R2 := hid (HR.out.at hb)
  clear hb LV
  go_wp2_with fail
  refine (RI.out _ R2.out).mono ?_
  rintro e w3 ⟨rfl, rfl⟩
  go_wp2_with fail
  refine (KI.out _).mono ?_
  rintro e w4 ⟨rfl, rfl⟩
  have E1 := ET.out
  go_wp2_with fail
  refine (KX.out _ R2.out).mono ?_
  rintro e w5 ⟨rfl, rfl⟩
  clear KI RI KX E1 ET tn tn2 te
  obtain ⟨wf, hwf⟩ : ∃ wf : World, wf = w5 := ⟨_, rfl⟩
  go_wp2_with fail
  go_loopw [50] (fun i wr => ∃ (j : Nat), j ≤ 8 ∧ i = .int .i64 j ∧ wr = w5) (fun i _ => 8 - (intOf i).toNat)
  case atStart => exact ⟨0, by omega, rfl, rfl⟩
  case round =>
    obtain ⟨j, hj, rfl, rfl⟩ := hrel
    by_cases h8 : j < 8
    · have h8I : (j : Int) < 8 := by omega
      obtain ⟨y2, hy2⟩ : ∃ y, y = glRune0 j := ⟨_, rfl⟩
      have RI := hid (fun (w : World) R => rune_in j h8 w R)
      have KI := hid (fun (w : World) => rkind_in j w h8)
      have KO := hid (fun (w : World) R => kind_hit (glRune0 j) j h8 (isKind_own j h8) w R)
      have E2 := enc_text j h8
      rw [← hy2] at RI KO E2
      have HE := hid E2
      have te2 := txt_eq (glText j)
      have tj : ((j : Int) != j) = false := by simp
      by_cases hx : glRune0 j = x
      · exact absurd hx (HK.out.1 j h8)
      · have t1 : (x == y2) = false := by rw [hy2]; exact beq_eq_false_iff_ne.2 (fun h => hx h.symm)
        have HJ := hid (show j + 1 ≤ 8 by omega)
        clear hx hy2 E2
        go_wp2_with fail
        refine (RI.out _ R2.out).mono ?_
        rintro e w6 ⟨rfl, rfl⟩
        go_wp2_with fail
        refine (KO.out _ R2.out).mono ?_
        rintro e w7 ⟨rfl, rfl⟩
        go_wp2_with fail
        refine (KI.out _).mono ?_
        rintro e w8 ⟨rfl, rfl⟩
        have E3 := HE.out
        go_wp2
        go_roundw
        case rel => exact ⟨j + 1, HJ.out, by go_num, by first | rfl | trivial⟩
        case measure => simp [intOf]; omega
    · obtain rfl : j = 8 := by omega
      go_wp2
      go_ret
      exact ⟨rfl, B2.out⟩
set_option maxHeartbeats 8000000 in
set_option maxRecDepth 100000 in
theorem w01 (k : Int) (hk : k < 0 ∨ 7 < k) (x : Int) (q : Nat) (hq : q < 8) (hK : IsKind x q) (w : World) (R : GlRunes w) (T : PwTab w) :
    Calls Tryd.prog 3 #[.int .i64 k, .int .i32 x] w fun e w' => e = .returned (.bool true) ∧ Below w.heap.size w w' := by
  have LV := hid (lives16 w R T)
  have HR := hid R
  have HK := hid hK
  have RI := hid (fun (w : World) => rune_out k hk w)
  have KI := hid (fun (w : World) => rkind_out k w hk)
  have te := txt_eq { data := #[] }
  clear hk
  have KX := hid (fun (w : World) R => kind_hit x q hq HK.out w R)
  clear R T hK
  go_enter Tryd.func3, Tryd.ntmps3
  go_wp2_with fail
  refine LV.out.mono ?_
  rintro e w2 ⟨rfl, hb⟩
  have B2 := hid hb
  have R2 := hid (HR.out.at hb)
  clear hb LV
  go_wp2_with fail
  refine (RI.out _).mono ?_
  rintro e w3 ⟨rfl, rfl⟩
  go_wp2_with fail
  refine (KI.out _).mono ?_
  rintro e w4 ⟨rfl, rfl⟩
  go_wp2_with fail
  refine (KX.out _ R2.out).mono ?_
  rintro e w5 ⟨rfl, rfl⟩
  clear KI RI KX te
  obtain ⟨wf, hwf⟩ : ∃ wf : World, wf = w5 := ⟨_, rfl⟩
  go_wp2_with fail
  go_loopw [50] (fun i wr => ∃ (j : Nat), j ≤ q ∧ i = .int .i64 j ∧ wr = w5) (fun i _ => 8 - (intOf i).toNat)
  case atStart => exact ⟨0, by omega, rfl, rfl⟩
  case round =>
    obtain ⟨j, hj, rfl, rfl⟩ := hrel
    by_cases h8 : j < 8
    · have h8I : (j : Int) < 8 := by omega
      obtain ⟨y2, hy2⟩ : ∃ y, y = glRune0 j := ⟨_, rfl⟩
      have RI := hid (fun (w : World) R => rune_in j h8 w R)
      have KI := hid (fun (w : World) => rkind_in j w h8)
      have KO := hid (fun (w : World) R => kind_hit (glRune0 j) j h8 (isKind_own j h8) w R)
      have E2 := enc_text j h8
      rw [← hy2] at RI KO E2
      have HE := hid E2
      have te2 := txt_eq (glText j)
      have tj : ((j : Int) != j) = false := by simp
      by_cases hx : glRune0 j = x
      · have hjq : j = q := by rcases Nat.lt_or_ge j q with h | h; exact absurd hx (HK.out.1 j h); omega
        subst hjq
        have t1 : (x == y2) = true := by rw [hy2, hx]; simp
        have t2 : ((j : Int) == j) = true := by simp
        clear hx hy2 E2
        go_wp2_with fail
        refine (RI.out _ R2.out).mono ?_
        rintro e w6 ⟨rfl, rfl⟩
        go_wp2_with fail
        refine (KO.out _ R2.out).mono ?_
        rintro e w7 ⟨rfl, rfl⟩
        go_wp2_with fail
        refine (KI.out _).mono ?_
        rintro e w8 ⟨rfl, rfl⟩
        have E3 := HE.out
        go_wp2
        go_ret
        exact ⟨rfl, B2.out⟩
      · have t1 : (x == y2) = false := by rw [hy2]; exact beq_eq_false_iff_ne.2 (fun h => hx h.symm)
        have HJ := hid (show j + 1 ≤ q by rcases Nat.lt_or_ge j q with h | h; exact h; exact absurd (by have := HK.out.2 hq; rw [show j = q by omega]; exact this) hx)
        clear hx hy2 E2
        go_wp2_with fail
        refine (RI.out _ R2.out).mono ?_
        rintro e w6 ⟨rfl, rfl⟩
        go_wp2_with fail
        refine (KO.out _ R2.out).mono ?_
        rintro e w7 ⟨rfl, rfl⟩
        go_wp2_with fail
        refine (KI.out _).mono ?_
        rintro e w8 ⟨rfl, rfl⟩
        have E3 := HE.out
        go_wp2
        go_roundw
        case rel => exact ⟨j + 1, HJ.out, by go_num, by first | rfl | trivial⟩
        case measure => simp [intOf]; omega
    · exact absurd hj (by omega)
set_option maxHeartbeats 8000000 in
set_option maxRecDepth 100000 in
theorem w00 (k : Int) (hk : k < 0 ∨ 7 < k) (x : Int) (hK : IsKind x 8) (w : World) (R : GlRunes w) (T : PwTab w) :
    Calls Tryd.prog 3 #[.int .i64 k, .int .i32 x] w fun e w' => e = .returned (.bool true) ∧ Below w.heap.size w w' := by
  have LV := hid (lives16 w R T)
  have HR := hid R
  have HK := hid hK
  have RI := hid (fun (w : World) => rune_out k hk w)
  have KI := hid (fun (w : World) => rkind_out k w hk)
  have te := txt_eq { data := #[] }
  clear hk
  have KX := hid (fun (w : World) R => kind_miss x HK.out w R)
  clear R T hK
  go_enter Tryd.func3, Tryd.ntmps3
  go_wp2_with fail
  refine LV.out.mono ?_
  rintro e w2 ⟨rfl, hb⟩
  have B2 := hid hb
  have R2 := hid (HR.out.at hb)
  clear hb LV
  go_wp2_with fail
  refine (RI.out _).mono ?_
  rintro e w3 ⟨rfl, rfl⟩
  go_wp2_with fail
  refine (KI.out _).mono ?_
  rintro e w4 ⟨rfl, rfl⟩
  go_wp2_with fail
  refine (KX.out _ R2.out).mono ?_
  rintro e w5 ⟨rfl, rfl⟩
  clear KI RI KX te
  obtain ⟨wf, hwf⟩ : ∃ wf : World, wf = w5 := ⟨_, rfl⟩
  go_wp2_with fail
  go_loopw [50] (fun i wr => ∃ (j : Nat), j ≤ 8 ∧ i = .int .i64 j ∧ wr = w5) (fun i _ => 8 - (intOf i).toNat)
  case atStart => exact ⟨0, by omega, rfl, rfl⟩
  case round =>
    obtain ⟨j, hj, rfl, rfl⟩ := hrel
    by_cases h8 : j < 8
    · have h8I : (j : Int) < 8 := by omega
      obtain ⟨y2, hy2⟩ : ∃ y, y = glRune0 j := ⟨_, rfl⟩
      have RI := hid (fun (w : World) R => rune_in j h8 w R)
      have KI := hid (fun (w : World) => rkind_in j w h8)
      have KO := hid (fun (w : World) R => kind_hit (glRune0 j) j h8 (isKind_own j h8) w R)
      have E2 := enc_text j h8
      rw [← hy2] at RI KO E2
      have HE := hid E2
      have te2 := txt_eq (glText j)
      have tj : ((j : Int) != j) = false := by simp
      by_cases hx : glRune0 j = x
      · exact absurd hx (HK.out.1 j h8)
      · have t1 : (x == y2) = false := by rw [hy2]; exact beq_eq_false_iff_ne.2 (fun h => hx h.symm)
        have HJ := hid (show j + 1 ≤ 8 by omega)
        clear hx hy2 E2
        go_wp2_with fail
        refine (RI.out _ R2.out).mono ?_
        rintro e w6 ⟨rfl, rfl⟩
        go_wp2_with fail
        refine (KO.out _ R2.out).mono ?_
        rintro e w7 ⟨rfl, rfl⟩
        go_wp2_with fail
        refine (KI.out _).mono ?_
        rintro e w8 ⟨rfl, rfl⟩
        have E3 := HE.out
        go_wp2
        go_roundw
        case rel => exact ⟨j + 1, HJ.out, by go_num, by first | rfl | trivial⟩
        case measure => simp [intOf]; omega
    · obtain rfl : j = 8 := by omega
      go_wp2
      go_ret
      exact ⟨rfl, B2.out⟩
theorem walk (a0 a1 : Int) (w : World) (w0 : (Lit.int .i64 a0).wf = true) (w1 : (Lit.int .i32 a1).wf = true) (R : GlRunes w) (T : PwTab w) :
    Calls Tryd.prog 3 #[.int .i64 a0, .int .i32 a1] w fun e w' => e = .returned (.bool true) ∧ Below w.heap.size w w' := by
  obtain ⟨q, hq, hK⟩ := isKind_ex a1
  by_cases hk : a0 < 0 ∨ 7 < a0
  · by_cases h8 : q < 8
    · exact w01 a0 hk a1 q h8 hK w R T
    · obtain rfl : q = 8 := by omega
      exact w00 a0 hk a1 hK w R T
  · obtain ⟨j, rfl⟩ : ∃ j : Nat, a0 = j := ⟨a0.toNat, by omega⟩
    by_cases h8 : q < 8
    · exact w11 j (by omega) a1 q h8 hK w R T
    · obtain rfl : q = 8 := by omega
      exact w10 j (by omega) a1 hK w R T
end Go.Proofs.YtfindhignapbcaaDoor.glyphKinds
