/- Glyphs: a kind's rune, a rune's kind; the chapter's example. -/
import Derived.Test.YtnaphgjkkagpoaaDoorRight
import Derived.Test.YtnaphgjkkagpoaaDoorTabGl
import Derived.Test.YtnaphgjkkagpoaaDoorShelf
import Derived.Test.YtnaphgjkkagpoaaDoorText
import Derived.Test.YtnaphgjkkagpoaaDoorStructs
import Derived.Laws.Concat
import Derived.Lib.ItoaLen
namespace Go.Proofs.YtnaphgjkkagpoaaDoor
set_option linter.unusedVariables false
set_option linter.unusedSimpArgs false
open Go.RowKit

/-- A kind's rune as text. -/
def glText : Nat → ByteArray
  | 0 => { data := #[43] }
  | 1 => { data := #[33] }
  | 2 => { data := #[226, 134, 146] }
  | 3 => { data := #[226, 134, 186] }
  | 4 => { data := #[226, 150, 160] }
  | 5 => { data := #[226, 152, 190] }
  | 6 => { data := #[226, 140, 155] }
  | 7 => { data := #[226, 156, 157] }
  | _ => { data := #[] }
theorem rune_in (k : Nat) (hk : k < 8) (w : World) (T : GlRunes w) : Calls Tryd.prog 19 #[.int .i64 k] w fun e w' => e = .returned (.tuple #[.int .i32 (glRune0 k), .bool true]) ∧ w' = w := by
  have c := T.cell k hk
  have hkI : (k : Int) < 8 := by omega
  have hk0 : ¬ (k : Int) < 0 := by omega
  clear T
  go_enter Tryd.func19, Tryd.ntmps19
  go_wp2
  exact bodyPost_ret (v := .tuple #[.int .i32 (glRune0 k), .bool true]) (by simp [results, Tryd.results19, go_sem]) rfl ⟨rfl, rfl⟩
theorem rune_out (k : Int) (hk : k < 0 ∨ 7 < k) (w : World) : Calls Tryd.prog 19 #[.int .i64 k] w fun e w' => e = .returned (.tuple #[.int .i32 0, .bool false]) ∧ w' = w := by
  go_enter Tryd.func19, Tryd.ntmps19
  rcases hk with hk | hk
  · go_wp2
    exact bodyPost_ret (v := .tuple #[.int .i32 0, .bool false]) (by simp [results, Tryd.results19, go_sem]) rfl ⟨rfl, rfl⟩
  · have hk2 : ¬ k < 0 := by omega
    have hk3 : 8 ≤ k := by omega
    go_wp2
    exact bodyPost_ret (v := .tuple #[.int .i32 0, .bool false]) (by simp [results, Tryd.results19, go_sem]) rfl ⟨rfl, rfl⟩
theorem below_grow (w : World) (os : Array Obj) : Below w.heap.size w (Sort.grow w os) :=
  ⟨rfl, rfl, rfl, by simp [Sort.grow], fun k hk => by simp [Sort.grow, Array.getElem?_append, hk]⟩
theorem below_grown {w w' : World} (h : ∃ k os, w' = Sort.grow (w.drewN k) os) : Below w.heap.size w w' := by
  obtain ⟨k, os, rfl⟩ := h
  exact (Quiet.below ⟨k, rfl⟩ w.heap.size).trans (below_grow (w.drewN k) os)
/-- A number's text. -/
def itoaB (n : Int) : ByteArray := ⟨(Lib.itoa n).toArray⟩
theorem itoa_any (n : Int) (h0 : -9223372036854775808 ≤ n) (h1 : n ≤ 9223372036854775807) (w : World) (T : PwTab w) :
    Calls Tryd.prog 21 #[.int .i64 n] w fun e w' => e = .returned (.string (itoaB n)) ∧ Below w.heap.size w w' :=
  (Any.strconv_Itoa Tryd.laysItoa n h0 h1 w T).mono fun _ _ ⟨e, h⟩ => ⟨e, below_grown h⟩
theorem fmt10 (n : Int) (h0 : -9223372036854775808 ≤ n) (h1 : n ≤ 9223372036854775807) (w : World) (T : PwTab w) :
    Calls Tryd.prog 22 #[.int .i64 n, .int .i64 10] w fun e w' => e = .returned (.string (itoaB n)) ∧ Below w.heap.size w w' :=
  (Any.strconv_FormatInt_10 Tryd.laysFmt n h0 h1 w T).mono fun _ _ ⟨e, h⟩ => ⟨e, below_grown h⟩
theorem enc_text (k : Nat) (hk : k < 8) : Utf8.encode (glRune0 k) = glText k :=
  match k, hk with
  | 0, _ => by kernel_rfl
  | 1, _ => by kernel_rfl
  | 2, _ => by kernel_rfl
  | 3, _ => by kernel_rfl
  | 4, _ => by kernel_rfl
  | 5, _ => by kernel_rfl
  | 6, _ => by kernel_rfl
  | 7, _ => by kernel_rfl
/-- An event's word. -/
def wordG (k : Nat) (g : Int) : ByteArray := glText k ++ itoaB g
def wordM (k : Nat) (g m : Int) : ByteArray := if m = -1 then wordG k g else wordG k g ++ ({ data := #[109] } ++ itoaB m)
def wordP (k : Nat) (g m p : Int) : ByteArray := if p = -1 then wordM k g m else wordM k g m ++ ({ data := #[112] } ++ itoaB p)
def wordB (k : Nat) (g m p v : Int) : ByteArray := if v = 0 then wordP k g m p else wordP k g m p ++ ({ data := #[61] } ++ itoaB v)
/-- The tables, and an event in a box. -/
structure Gb (w0 : World) (G : Nat) (k g m p v : Int) (w : World) : Prop where
  r : GlRunes w
  t : PwTab w
  b : w.heap[G]? = some (.cells #[.int .i64 k, .int .i64 g, .int .i64 m, .int .i64 p, .int .i64 v] 29 (0, 0))
  bl : Below w0.heap.size w0 w
theorem Gb.below {w0 w w' : World} {G : Nat} {k g m p v : Int} (h : Gb w0 G k g m p v w) (hb : Below w.heap.size w w') : Gb w0 G k g m p v w' :=
  ⟨h.r.at hb, h.t.at hb, (hb.block _ (by have := h.b; rw [Array.getElem?_eq_some_iff] at this; exact this.1)).trans h.b, h.bl.trans (hb.mono h.bl.size)⟩
theorem Gb.cell {w0 w : World} {G : Nat} {k g m p v : Int} (h : Gb w0 G k g m p v w) :
    w.cell? ⟨G, 0, none⟩ = some (.int .i64 k) ∧ w.cell? ⟨G, 1, none⟩ = some (.int .i64 g) ∧ w.cell? ⟨G, 2, none⟩ = some (.int .i64 m) ∧ w.cell? ⟨G, 3, none⟩ = some (.int .i64 p) ∧ w.cell? ⟨G, 4, none⟩ = some (.int .i64 v) := by
  simp [World.cell?, h.b]
theorem Gb.new {w : World} (r : GlRunes w) (t : PwTab w) (k g m p v : Int) : Gb w w.heap.size k g m p v (w.alloc (.cells #[.int .i64 k, .int .i64 g, .int .i64 m, .int .i64 p, .int .i64 v] 29)) :=
  have hb : Below w.heap.size w (w.alloc (.cells #[.int .i64 k, .int .i64 g, .int .i64 m, .int .i64 p, .int .i64 v] 29)) := (Below.refl _ _).alloc (Nat.le_refl _) _
  ⟨r.at hb, t.at hb, heap_alloc_new _ _, hb⟩
theorem right_all {k g m p v : Int} (h : evRight k g m p v = true) : (0 ≤ k ∧ k < 8) ∧ (0 ≤ g ∧ g < 4096) ∧ (-1 ≤ m ∧ m < 128) ∧ (-1 ≤ p ∧ p < 64) := by
  simp only [evRight, Bool.and_eq_true, decide_eq_true_eq] at h
  omega
theorem sz109 : ({ data := #[109] } : ByteArray).size = 1 := rfl
theorem sz112 : ({ data := #[112] } : ByteArray).size = 1 := rfl
theorem sz61 : ({ data := #[61] } : ByteArray).size = 1 := rfl
theorem text_size (k : Nat) (hk : k < 8) : (glText k).size ≤ 3 :=
  match k, hk with
  | 0, _ | 1, _ | 2, _ | 3, _ | 4, _ | 5, _ | 6, _ | 7, _ => by decide
theorem itoaB_size (n : Int) (h0 : -9223372036854775808 ≤ n) (h1 : n ≤ 9223372036854775807) : (itoaB n).size ≤ 21 := by
  have := Lib.itoa_length_le n h0 h1
  simpa [itoaB, ByteArray.size] using this
/-- What a walk through Word wants of an event that may be. -/
structure Wd (k : Nat) (g m p v y : Int) : Prop where
  k8 : k < 8
  hg : 0 ≤ g ∧ g < 4096
  hm : -1 ≤ m ∧ m < 128
  hp : -1 ≤ p ∧ p < 64
  hv : -9223372036854775808 ≤ v ∧ v ≤ 9223372036854775807
  y0 : y = glRune0 k
  hr : evRight k g m p v = true
set_option maxHeartbeats 4000000 in
theorem word_000 (k : Nat) (g m p v y : Int) (W : Wd k g m p v y) (w : World) (R : GlRunes w) (T : PwTab w) (tm : (m != -1) = false) (tp : (p != -1) = false) (tv : (v != 0) = false) :
    Calls Tryd.prog 11 #[.agg #[.int .i64 k, .int .i64 g, .int .i64 m, .int .i64 p, .int .i64 v]] w fun e w' => e = .returned (.tuple #[.string (glText k ++ itoaB g), .int .i64 0]) ∧ Below w.heap.size w w' := by
  have H0 := hid (Gb.new R T k g m p v)
  have RA := hid (fun w => right_any k g m p v w)
  rw [W.hr] at RA
  have ET := hid (enc_text k W.k8)
  have RI := hid (rune_in k W.k8)
  rw [← W.y0] at RI ET
  have HW := hid W
  obtain ⟨c0, c1, c2, c3, c4⟩ := H0.out.cell
  have ad0 := fun w => run_string_add_sum (P := Tryd.prog) w (glText k) (itoaB g) (by have z1 := text_size k W.k8; have z2 := itoaB_size g (by have := W.hg; omega) (by have := W.hg; omega); have z3 := itoaB_size m (by have := W.hm; omega) (by have := W.hm; omega); have z4 := itoaB_size p (by have := W.hp; omega) (by have := W.hp; omega); have z5 := itoaB_size v W.hv.1 W.hv.2; (try simp only [ByteArray.size_append, sz109, sz112, sz61]); omega)
  clear R T W
  go_enter Tryd.func11, Tryd.ntmps11
  go_wp2_with fail
  refine (RI.out _ H0.out.r).mono ?_
  rintro e w1 ⟨rfl, rfl⟩
  go_wp2_with fail
  refine (RA.out _).mono ?_
  rintro e w2 ⟨rfl, hb⟩
  have H2 := hid (H0.out.below hb)
  clear c0 c1 c2 c3 c4 hb H0
  obtain ⟨c0, c1, c2, c3, c4⟩ := H2.out.cell
  go_wp2_with fail
  rw [ET.out]
  refine (itoa_any g (by have := HW.out.hg; omega) (by have := HW.out.hg; omega) _ H2.out.t).mono ?_
  rintro e w3 ⟨rfl, hb⟩
  have H3 := hid (H2.out.below hb)
  clear c0 c1 c2 c3 c4 hb H2
  obtain ⟨c0, c1, c2, c3, c4⟩ := H3.out.cell
  go_wp2
  exact bodyPost_ret (v := .tuple #[.string (glText k ++ itoaB g), .int .i64 0]) (by simp [results, Tryd.results11, go_sem]) rfl ⟨rfl, H3.out.bl⟩
set_option maxHeartbeats 4000000 in
theorem word_001 (k : Nat) (g m p v y : Int) (W : Wd k g m p v y) (w : World) (R : GlRunes w) (T : PwTab w) (tm : (m != -1) = false) (tp : (p != -1) = false) (tv : (v != 0) = true) :
    Calls Tryd.prog 11 #[.agg #[.int .i64 k, .int .i64 g, .int .i64 m, .int .i64 p, .int .i64 v]] w fun e w' => e = .returned (.tuple #[.string ((glText k ++ itoaB g) ++ ({ data := #[61] } ++ itoaB v)), .int .i64 0]) ∧ Below w.heap.size w w' := by
  have H0 := hid (Gb.new R T k g m p v)
  have RA := hid (fun w => right_any k g m p v w)
  rw [W.hr] at RA
  have ET := hid (enc_text k W.k8)
  have RI := hid (rune_in k W.k8)
  rw [← W.y0] at RI ET
  have HW := hid W
  obtain ⟨c0, c1, c2, c3, c4⟩ := H0.out.cell
  have ad0 := fun w => run_string_add_sum (P := Tryd.prog) w (glText k) (itoaB g) (by have z1 := text_size k W.k8; have z2 := itoaB_size g (by have := W.hg; omega) (by have := W.hg; omega); have z3 := itoaB_size m (by have := W.hm; omega) (by have := W.hm; omega); have z4 := itoaB_size p (by have := W.hp; omega) (by have := W.hp; omega); have z5 := itoaB_size v W.hv.1 W.hv.2; (try simp only [ByteArray.size_append, sz109, sz112, sz61]); omega)
  have ad1 := fun w => run_string_add_sum (P := Tryd.prog) w (({ data := #[61] } : ByteArray)) (itoaB v) (by have z1 := text_size k W.k8; have z2 := itoaB_size g (by have := W.hg; omega) (by have := W.hg; omega); have z3 := itoaB_size m (by have := W.hm; omega) (by have := W.hm; omega); have z4 := itoaB_size p (by have := W.hp; omega) (by have := W.hp; omega); have z5 := itoaB_size v W.hv.1 W.hv.2; (try simp only [ByteArray.size_append, sz109, sz112, sz61]); omega)
  have ad2 := fun w => run_string_add_sum (P := Tryd.prog) w (glText k ++ itoaB g) (({ data := #[61] } : ByteArray) ++ itoaB v) (by have z1 := text_size k W.k8; have z2 := itoaB_size g (by have := W.hg; omega) (by have := W.hg; omega); have z3 := itoaB_size m (by have := W.hm; omega) (by have := W.hm; omega); have z4 := itoaB_size p (by have := W.hp; omega) (by have := W.hp; omega); have z5 := itoaB_size v W.hv.1 W.hv.2; (try simp only [ByteArray.size_append, sz109, sz112, sz61]); omega)
  clear R T W
  go_enter Tryd.func11, Tryd.ntmps11
  go_wp2_with fail
  refine (RI.out _ H0.out.r).mono ?_
  rintro e w1 ⟨rfl, rfl⟩
  go_wp2_with fail
  refine (RA.out _).mono ?_
  rintro e w2 ⟨rfl, hb⟩
  have H2 := hid (H0.out.below hb)
  clear c0 c1 c2 c3 c4 hb H0
  obtain ⟨c0, c1, c2, c3, c4⟩ := H2.out.cell
  go_wp2_with fail
  rw [ET.out]
  refine (itoa_any g (by have := HW.out.hg; omega) (by have := HW.out.hg; omega) _ H2.out.t).mono ?_
  rintro e w3 ⟨rfl, hb⟩
  have H3 := hid (H2.out.below hb)
  clear c0 c1 c2 c3 c4 hb H2
  obtain ⟨c0, c1, c2, c3, c4⟩ := H3.out.cell
  go_wp2_with fail
  refine (fmt10 v (by have := HW.out.hv; omega) (by have := HW.out.hv; omega) _ H3.out.t).mono ?_
  rintro e w4 ⟨rfl, hb⟩
  have H4 := hid (H3.out.below hb)
  clear c0 c1 c2 c3 c4 hb H3
  obtain ⟨c0, c1, c2, c3, c4⟩ := H4.out.cell
  go_wp2
  exact bodyPost_ret (v := .tuple #[.string ((glText k ++ itoaB g) ++ ({ data := #[61] } ++ itoaB v)), .int .i64 0]) (by simp [results, Tryd.results11, go_sem]) rfl ⟨rfl, H4.out.bl⟩
set_option maxHeartbeats 4000000 in
theorem word_010 (k : Nat) (g m p v y : Int) (W : Wd k g m p v y) (w : World) (R : GlRunes w) (T : PwTab w) (tm : (m != -1) = false) (tp : (p != -1) = true) (tv : (v != 0) = false) :
    Calls Tryd.prog 11 #[.agg #[.int .i64 k, .int .i64 g, .int .i64 m, .int .i64 p, .int .i64 v]] w fun e w' => e = .returned (.tuple #[.string ((glText k ++ itoaB g) ++ ({ data := #[112] } ++ itoaB p)), .int .i64 0]) ∧ Below w.heap.size w w' := by
  have H0 := hid (Gb.new R T k g m p v)
  have RA := hid (fun w => right_any k g m p v w)
  rw [W.hr] at RA
  have ET := hid (enc_text k W.k8)
  have RI := hid (rune_in k W.k8)
  rw [← W.y0] at RI ET
  have HW := hid W
  obtain ⟨c0, c1, c2, c3, c4⟩ := H0.out.cell
  have ad0 := fun w => run_string_add_sum (P := Tryd.prog) w (glText k) (itoaB g) (by have z1 := text_size k W.k8; have z2 := itoaB_size g (by have := W.hg; omega) (by have := W.hg; omega); have z3 := itoaB_size m (by have := W.hm; omega) (by have := W.hm; omega); have z4 := itoaB_size p (by have := W.hp; omega) (by have := W.hp; omega); have z5 := itoaB_size v W.hv.1 W.hv.2; (try simp only [ByteArray.size_append, sz109, sz112, sz61]); omega)
  have ad1 := fun w => run_string_add_sum (P := Tryd.prog) w (({ data := #[112] } : ByteArray)) (itoaB p) (by have z1 := text_size k W.k8; have z2 := itoaB_size g (by have := W.hg; omega) (by have := W.hg; omega); have z3 := itoaB_size m (by have := W.hm; omega) (by have := W.hm; omega); have z4 := itoaB_size p (by have := W.hp; omega) (by have := W.hp; omega); have z5 := itoaB_size v W.hv.1 W.hv.2; (try simp only [ByteArray.size_append, sz109, sz112, sz61]); omega)
  have ad2 := fun w => run_string_add_sum (P := Tryd.prog) w (glText k ++ itoaB g) (({ data := #[112] } : ByteArray) ++ itoaB p) (by have z1 := text_size k W.k8; have z2 := itoaB_size g (by have := W.hg; omega) (by have := W.hg; omega); have z3 := itoaB_size m (by have := W.hm; omega) (by have := W.hm; omega); have z4 := itoaB_size p (by have := W.hp; omega) (by have := W.hp; omega); have z5 := itoaB_size v W.hv.1 W.hv.2; (try simp only [ByteArray.size_append, sz109, sz112, sz61]); omega)
  clear R T W
  go_enter Tryd.func11, Tryd.ntmps11
  go_wp2_with fail
  refine (RI.out _ H0.out.r).mono ?_
  rintro e w1 ⟨rfl, rfl⟩
  go_wp2_with fail
  refine (RA.out _).mono ?_
  rintro e w2 ⟨rfl, hb⟩
  have H2 := hid (H0.out.below hb)
  clear c0 c1 c2 c3 c4 hb H0
  obtain ⟨c0, c1, c2, c3, c4⟩ := H2.out.cell
  go_wp2_with fail
  rw [ET.out]
  refine (itoa_any g (by have := HW.out.hg; omega) (by have := HW.out.hg; omega) _ H2.out.t).mono ?_
  rintro e w3 ⟨rfl, hb⟩
  have H3 := hid (H2.out.below hb)
  clear c0 c1 c2 c3 c4 hb H2
  obtain ⟨c0, c1, c2, c3, c4⟩ := H3.out.cell
  go_wp2_with fail
  refine (itoa_any p (by have := HW.out.hp; omega) (by have := HW.out.hp; omega) _ H3.out.t).mono ?_
  rintro e w4 ⟨rfl, hb⟩
  have H4 := hid (H3.out.below hb)
  clear c0 c1 c2 c3 c4 hb H3
  obtain ⟨c0, c1, c2, c3, c4⟩ := H4.out.cell
  go_wp2
  exact bodyPost_ret (v := .tuple #[.string ((glText k ++ itoaB g) ++ ({ data := #[112] } ++ itoaB p)), .int .i64 0]) (by simp [results, Tryd.results11, go_sem]) rfl ⟨rfl, H4.out.bl⟩
set_option maxHeartbeats 4000000 in
theorem word_011 (k : Nat) (g m p v y : Int) (W : Wd k g m p v y) (w : World) (R : GlRunes w) (T : PwTab w) (tm : (m != -1) = false) (tp : (p != -1) = true) (tv : (v != 0) = true) :
    Calls Tryd.prog 11 #[.agg #[.int .i64 k, .int .i64 g, .int .i64 m, .int .i64 p, .int .i64 v]] w fun e w' => e = .returned (.tuple #[.string (((glText k ++ itoaB g) ++ ({ data := #[112] } ++ itoaB p)) ++ ({ data := #[61] } ++ itoaB v)), .int .i64 0]) ∧ Below w.heap.size w w' := by
  have H0 := hid (Gb.new R T k g m p v)
  have RA := hid (fun w => right_any k g m p v w)
  rw [W.hr] at RA
  have ET := hid (enc_text k W.k8)
  have RI := hid (rune_in k W.k8)
  rw [← W.y0] at RI ET
  have HW := hid W
  obtain ⟨c0, c1, c2, c3, c4⟩ := H0.out.cell
  have ad0 := fun w => run_string_add_sum (P := Tryd.prog) w (glText k) (itoaB g) (by have z1 := text_size k W.k8; have z2 := itoaB_size g (by have := W.hg; omega) (by have := W.hg; omega); have z3 := itoaB_size m (by have := W.hm; omega) (by have := W.hm; omega); have z4 := itoaB_size p (by have := W.hp; omega) (by have := W.hp; omega); have z5 := itoaB_size v W.hv.1 W.hv.2; (try simp only [ByteArray.size_append, sz109, sz112, sz61]); omega)
  have ad1 := fun w => run_string_add_sum (P := Tryd.prog) w (({ data := #[112] } : ByteArray)) (itoaB p) (by have z1 := text_size k W.k8; have z2 := itoaB_size g (by have := W.hg; omega) (by have := W.hg; omega); have z3 := itoaB_size m (by have := W.hm; omega) (by have := W.hm; omega); have z4 := itoaB_size p (by have := W.hp; omega) (by have := W.hp; omega); have z5 := itoaB_size v W.hv.1 W.hv.2; (try simp only [ByteArray.size_append, sz109, sz112, sz61]); omega)
  have ad2 := fun w => run_string_add_sum (P := Tryd.prog) w (glText k ++ itoaB g) (({ data := #[112] } : ByteArray) ++ itoaB p) (by have z1 := text_size k W.k8; have z2 := itoaB_size g (by have := W.hg; omega) (by have := W.hg; omega); have z3 := itoaB_size m (by have := W.hm; omega) (by have := W.hm; omega); have z4 := itoaB_size p (by have := W.hp; omega) (by have := W.hp; omega); have z5 := itoaB_size v W.hv.1 W.hv.2; (try simp only [ByteArray.size_append, sz109, sz112, sz61]); omega)
  have ad3 := fun w => run_string_add_sum (P := Tryd.prog) w (({ data := #[61] } : ByteArray)) (itoaB v) (by have z1 := text_size k W.k8; have z2 := itoaB_size g (by have := W.hg; omega) (by have := W.hg; omega); have z3 := itoaB_size m (by have := W.hm; omega) (by have := W.hm; omega); have z4 := itoaB_size p (by have := W.hp; omega) (by have := W.hp; omega); have z5 := itoaB_size v W.hv.1 W.hv.2; (try simp only [ByteArray.size_append, sz109, sz112, sz61]); omega)
  have ad4 := fun w => run_string_add_sum (P := Tryd.prog) w ((glText k ++ itoaB g) ++ (({ data := #[112] } : ByteArray) ++ itoaB p)) (({ data := #[61] } : ByteArray) ++ itoaB v) (by have z1 := text_size k W.k8; have z2 := itoaB_size g (by have := W.hg; omega) (by have := W.hg; omega); have z3 := itoaB_size m (by have := W.hm; omega) (by have := W.hm; omega); have z4 := itoaB_size p (by have := W.hp; omega) (by have := W.hp; omega); have z5 := itoaB_size v W.hv.1 W.hv.2; (try simp only [ByteArray.size_append, sz109, sz112, sz61]); omega)
  clear R T W
  go_enter Tryd.func11, Tryd.ntmps11
  go_wp2_with fail
  refine (RI.out _ H0.out.r).mono ?_
  rintro e w1 ⟨rfl, rfl⟩
  go_wp2_with fail
  refine (RA.out _).mono ?_
  rintro e w2 ⟨rfl, hb⟩
  have H2 := hid (H0.out.below hb)
  clear c0 c1 c2 c3 c4 hb H0
  obtain ⟨c0, c1, c2, c3, c4⟩ := H2.out.cell
  go_wp2_with fail
  rw [ET.out]
  refine (itoa_any g (by have := HW.out.hg; omega) (by have := HW.out.hg; omega) _ H2.out.t).mono ?_
  rintro e w3 ⟨rfl, hb⟩
  have H3 := hid (H2.out.below hb)
  clear c0 c1 c2 c3 c4 hb H2
  obtain ⟨c0, c1, c2, c3, c4⟩ := H3.out.cell
  go_wp2_with fail
  refine (itoa_any p (by have := HW.out.hp; omega) (by have := HW.out.hp; omega) _ H3.out.t).mono ?_
  rintro e w4 ⟨rfl, hb⟩
  have H4 := hid (H3.out.below hb)
  clear c0 c1 c2 c3 c4 hb H3
  obtain ⟨c0, c1, c2, c3, c4⟩ := H4.out.cell
  go_wp2_with fail
  refine (fmt10 v (by have := HW.out.hv; omega) (by have := HW.out.hv; omega) _ H4.out.t).mono ?_
  rintro e w5 ⟨rfl, hb⟩
  have H5 := hid (H4.out.below hb)
  clear c0 c1 c2 c3 c4 hb H4
  obtain ⟨c0, c1, c2, c3, c4⟩ := H5.out.cell
  go_wp2
  exact bodyPost_ret (v := .tuple #[.string (((glText k ++ itoaB g) ++ ({ data := #[112] } ++ itoaB p)) ++ ({ data := #[61] } ++ itoaB v)), .int .i64 0]) (by simp [results, Tryd.results11, go_sem]) rfl ⟨rfl, H5.out.bl⟩
set_option maxHeartbeats 4000000 in
theorem word_100 (k : Nat) (g m p v y : Int) (W : Wd k g m p v y) (w : World) (R : GlRunes w) (T : PwTab w) (tm : (m != -1) = true) (tp : (p != -1) = false) (tv : (v != 0) = false) :
    Calls Tryd.prog 11 #[.agg #[.int .i64 k, .int .i64 g, .int .i64 m, .int .i64 p, .int .i64 v]] w fun e w' => e = .returned (.tuple #[.string ((glText k ++ itoaB g) ++ ({ data := #[109] } ++ itoaB m)), .int .i64 0]) ∧ Below w.heap.size w w' := by
  have H0 := hid (Gb.new R T k g m p v)
  have RA := hid (fun w => right_any k g m p v w)
  rw [W.hr] at RA
  have ET := hid (enc_text k W.k8)
  have RI := hid (rune_in k W.k8)
  rw [← W.y0] at RI ET
  have HW := hid W
  obtain ⟨c0, c1, c2, c3, c4⟩ := H0.out.cell
  have ad0 := fun w => run_string_add_sum (P := Tryd.prog) w (glText k) (itoaB g) (by have z1 := text_size k W.k8; have z2 := itoaB_size g (by have := W.hg; omega) (by have := W.hg; omega); have z3 := itoaB_size m (by have := W.hm; omega) (by have := W.hm; omega); have z4 := itoaB_size p (by have := W.hp; omega) (by have := W.hp; omega); have z5 := itoaB_size v W.hv.1 W.hv.2; (try simp only [ByteArray.size_append, sz109, sz112, sz61]); omega)
  have ad1 := fun w => run_string_add_sum (P := Tryd.prog) w (({ data := #[109] } : ByteArray)) (itoaB m) (by have z1 := text_size k W.k8; have z2 := itoaB_size g (by have := W.hg; omega) (by have := W.hg; omega); have z3 := itoaB_size m (by have := W.hm; omega) (by have := W.hm; omega); have z4 := itoaB_size p (by have := W.hp; omega) (by have := W.hp; omega); have z5 := itoaB_size v W.hv.1 W.hv.2; (try simp only [ByteArray.size_append, sz109, sz112, sz61]); omega)
  have ad2 := fun w => run_string_add_sum (P := Tryd.prog) w (glText k ++ itoaB g) (({ data := #[109] } : ByteArray) ++ itoaB m) (by have z1 := text_size k W.k8; have z2 := itoaB_size g (by have := W.hg; omega) (by have := W.hg; omega); have z3 := itoaB_size m (by have := W.hm; omega) (by have := W.hm; omega); have z4 := itoaB_size p (by have := W.hp; omega) (by have := W.hp; omega); have z5 := itoaB_size v W.hv.1 W.hv.2; (try simp only [ByteArray.size_append, sz109, sz112, sz61]); omega)
  clear R T W
  go_enter Tryd.func11, Tryd.ntmps11
  go_wp2_with fail
  refine (RI.out _ H0.out.r).mono ?_
  rintro e w1 ⟨rfl, rfl⟩
  go_wp2_with fail
  refine (RA.out _).mono ?_
  rintro e w2 ⟨rfl, hb⟩
  have H2 := hid (H0.out.below hb)
  clear c0 c1 c2 c3 c4 hb H0
  obtain ⟨c0, c1, c2, c3, c4⟩ := H2.out.cell
  go_wp2_with fail
  rw [ET.out]
  refine (itoa_any g (by have := HW.out.hg; omega) (by have := HW.out.hg; omega) _ H2.out.t).mono ?_
  rintro e w3 ⟨rfl, hb⟩
  have H3 := hid (H2.out.below hb)
  clear c0 c1 c2 c3 c4 hb H2
  obtain ⟨c0, c1, c2, c3, c4⟩ := H3.out.cell
  go_wp2_with fail
  refine (itoa_any m (by have := HW.out.hm; omega) (by have := HW.out.hm; omega) _ H3.out.t).mono ?_
  rintro e w4 ⟨rfl, hb⟩
  have H4 := hid (H3.out.below hb)
  clear c0 c1 c2 c3 c4 hb H3
  obtain ⟨c0, c1, c2, c3, c4⟩ := H4.out.cell
  go_wp2
  exact bodyPost_ret (v := .tuple #[.string ((glText k ++ itoaB g) ++ ({ data := #[109] } ++ itoaB m)), .int .i64 0]) (by simp [results, Tryd.results11, go_sem]) rfl ⟨rfl, H4.out.bl⟩
set_option maxHeartbeats 4000000 in
theorem word_101 (k : Nat) (g m p v y : Int) (W : Wd k g m p v y) (w : World) (R : GlRunes w) (T : PwTab w) (tm : (m != -1) = true) (tp : (p != -1) = false) (tv : (v != 0) = true) :
    Calls Tryd.prog 11 #[.agg #[.int .i64 k, .int .i64 g, .int .i64 m, .int .i64 p, .int .i64 v]] w fun e w' => e = .returned (.tuple #[.string (((glText k ++ itoaB g) ++ ({ data := #[109] } ++ itoaB m)) ++ ({ data := #[61] } ++ itoaB v)), .int .i64 0]) ∧ Below w.heap.size w w' := by
  have H0 := hid (Gb.new R T k g m p v)
  have RA := hid (fun w => right_any k g m p v w)
  rw [W.hr] at RA
  have ET := hid (enc_text k W.k8)
  have RI := hid (rune_in k W.k8)
  rw [← W.y0] at RI ET
  have HW := hid W
  obtain ⟨c0, c1, c2, c3, c4⟩ := H0.out.cell
  have ad0 := fun w => run_string_add_sum (P := Tryd.prog) w (glText k) (itoaB g) (by have z1 := text_size k W.k8; have z2 := itoaB_size g (by have := W.hg; omega) (by have := W.hg; omega); have z3 := itoaB_size m (by have := W.hm; omega) (by have := W.hm; omega); have z4 := itoaB_size p (by have := W.hp; omega) (by have := W.hp; omega); have z5 := itoaB_size v W.hv.1 W.hv.2; (try simp only [ByteArray.size_append, sz109, sz112, sz61]); omega)
  have ad1 := fun w => run_string_add_sum (P := Tryd.prog) w (({ data := #[109] } : ByteArray)) (itoaB m) (by have z1 := text_size k W.k8; have z2 := itoaB_size g (by have := W.hg; omega) (by have := W.hg; omega); have z3 := itoaB_size m (by have := W.hm; omega) (by have := W.hm; omega); have z4 := itoaB_size p (by have := W.hp; omega) (by have := W.hp; omega); have z5 := itoaB_size v W.hv.1 W.hv.2; (try simp only [ByteArray.size_append, sz109, sz112, sz61]); omega)
  have ad2 := fun w => run_string_add_sum (P := Tryd.prog) w (glText k ++ itoaB g) (({ data := #[109] } : ByteArray) ++ itoaB m) (by have z1 := text_size k W.k8; have z2 := itoaB_size g (by have := W.hg; omega) (by have := W.hg; omega); have z3 := itoaB_size m (by have := W.hm; omega) (by have := W.hm; omega); have z4 := itoaB_size p (by have := W.hp; omega) (by have := W.hp; omega); have z5 := itoaB_size v W.hv.1 W.hv.2; (try simp only [ByteArray.size_append, sz109, sz112, sz61]); omega)
  have ad3 := fun w => run_string_add_sum (P := Tryd.prog) w (({ data := #[61] } : ByteArray)) (itoaB v) (by have z1 := text_size k W.k8; have z2 := itoaB_size g (by have := W.hg; omega) (by have := W.hg; omega); have z3 := itoaB_size m (by have := W.hm; omega) (by have := W.hm; omega); have z4 := itoaB_size p (by have := W.hp; omega) (by have := W.hp; omega); have z5 := itoaB_size v W.hv.1 W.hv.2; (try simp only [ByteArray.size_append, sz109, sz112, sz61]); omega)
  have ad4 := fun w => run_string_add_sum (P := Tryd.prog) w ((glText k ++ itoaB g) ++ (({ data := #[109] } : ByteArray) ++ itoaB m)) (({ data := #[61] } : ByteArray) ++ itoaB v) (by have z1 := text_size k W.k8; have z2 := itoaB_size g (by have := W.hg; omega) (by have := W.hg; omega); have z3 := itoaB_size m (by have := W.hm; omega) (by have := W.hm; omega); have z4 := itoaB_size p (by have := W.hp; omega) (by have := W.hp; omega); have z5 := itoaB_size v W.hv.1 W.hv.2; (try simp only [ByteArray.size_append, sz109, sz112, sz61]); omega)
  clear R T W
  go_enter Tryd.func11, Tryd.ntmps11
  go_wp2_with fail
  refine (RI.out _ H0.out.r).mono ?_
  rintro e w1 ⟨rfl, rfl⟩
  go_wp2_with fail
  refine (RA.out _).mono ?_
  rintro e w2 ⟨rfl, hb⟩
  have H2 := hid (H0.out.below hb)
  clear c0 c1 c2 c3 c4 hb H0
  obtain ⟨c0, c1, c2, c3, c4⟩ := H2.out.cell
  go_wp2_with fail
  rw [ET.out]
  refine (itoa_any g (by have := HW.out.hg; omega) (by have := HW.out.hg; omega) _ H2.out.t).mono ?_
  rintro e w3 ⟨rfl, hb⟩
  have H3 := hid (H2.out.below hb)
  clear c0 c1 c2 c3 c4 hb H2
  obtain ⟨c0, c1, c2, c3, c4⟩ := H3.out.cell
  go_wp2_with fail
  refine (itoa_any m (by have := HW.out.hm; omega) (by have := HW.out.hm; omega) _ H3.out.t).mono ?_
  rintro e w4 ⟨rfl, hb⟩
  have H4 := hid (H3.out.below hb)
  clear c0 c1 c2 c3 c4 hb H3
  obtain ⟨c0, c1, c2, c3, c4⟩ := H4.out.cell
  go_wp2_with fail
  refine (fmt10 v (by have := HW.out.hv; omega) (by have := HW.out.hv; omega) _ H4.out.t).mono ?_
  rintro e w5 ⟨rfl, hb⟩
  have H5 := hid (H4.out.below hb)
  clear c0 c1 c2 c3 c4 hb H4
  obtain ⟨c0, c1, c2, c3, c4⟩ := H5.out.cell
  go_wp2
  exact bodyPost_ret (v := .tuple #[.string (((glText k ++ itoaB g) ++ ({ data := #[109] } ++ itoaB m)) ++ ({ data := #[61] } ++ itoaB v)), .int .i64 0]) (by simp [results, Tryd.results11, go_sem]) rfl ⟨rfl, H5.out.bl⟩
set_option maxHeartbeats 4000000 in
theorem word_110 (k : Nat) (g m p v y : Int) (W : Wd k g m p v y) (w : World) (R : GlRunes w) (T : PwTab w) (tm : (m != -1) = true) (tp : (p != -1) = true) (tv : (v != 0) = false) :
    Calls Tryd.prog 11 #[.agg #[.int .i64 k, .int .i64 g, .int .i64 m, .int .i64 p, .int .i64 v]] w fun e w' => e = .returned (.tuple #[.string (((glText k ++ itoaB g) ++ ({ data := #[109] } ++ itoaB m)) ++ ({ data := #[112] } ++ itoaB p)), .int .i64 0]) ∧ Below w.heap.size w w' := by
  have H0 := hid (Gb.new R T k g m p v)
  have RA := hid (fun w => right_any k g m p v w)
  rw [W.hr] at RA
  have ET := hid (enc_text k W.k8)
  have RI := hid (rune_in k W.k8)
  rw [← W.y0] at RI ET
  have HW := hid W
  obtain ⟨c0, c1, c2, c3, c4⟩ := H0.out.cell
  have ad0 := fun w => run_string_add_sum (P := Tryd.prog) w (glText k) (itoaB g) (by have z1 := text_size k W.k8; have z2 := itoaB_size g (by have := W.hg; omega) (by have := W.hg; omega); have z3 := itoaB_size m (by have := W.hm; omega) (by have := W.hm; omega); have z4 := itoaB_size p (by have := W.hp; omega) (by have := W.hp; omega); have z5 := itoaB_size v W.hv.1 W.hv.2; (try simp only [ByteArray.size_append, sz109, sz112, sz61]); omega)
  have ad1 := fun w => run_string_add_sum (P := Tryd.prog) w (({ data := #[109] } : ByteArray)) (itoaB m) (by have z1 := text_size k W.k8; have z2 := itoaB_size g (by have := W.hg; omega) (by have := W.hg; omega); have z3 := itoaB_size m (by have := W.hm; omega) (by have := W.hm; omega); have z4 := itoaB_size p (by have := W.hp; omega) (by have := W.hp; omega); have z5 := itoaB_size v W.hv.1 W.hv.2; (try simp only [ByteArray.size_append, sz109, sz112, sz61]); omega)
  have ad2 := fun w => run_string_add_sum (P := Tryd.prog) w (glText k ++ itoaB g) (({ data := #[109] } : ByteArray) ++ itoaB m) (by have z1 := text_size k W.k8; have z2 := itoaB_size g (by have := W.hg; omega) (by have := W.hg; omega); have z3 := itoaB_size m (by have := W.hm; omega) (by have := W.hm; omega); have z4 := itoaB_size p (by have := W.hp; omega) (by have := W.hp; omega); have z5 := itoaB_size v W.hv.1 W.hv.2; (try simp only [ByteArray.size_append, sz109, sz112, sz61]); omega)
  have ad3 := fun w => run_string_add_sum (P := Tryd.prog) w (({ data := #[112] } : ByteArray)) (itoaB p) (by have z1 := text_size k W.k8; have z2 := itoaB_size g (by have := W.hg; omega) (by have := W.hg; omega); have z3 := itoaB_size m (by have := W.hm; omega) (by have := W.hm; omega); have z4 := itoaB_size p (by have := W.hp; omega) (by have := W.hp; omega); have z5 := itoaB_size v W.hv.1 W.hv.2; (try simp only [ByteArray.size_append, sz109, sz112, sz61]); omega)
  have ad4 := fun w => run_string_add_sum (P := Tryd.prog) w ((glText k ++ itoaB g) ++ (({ data := #[109] } : ByteArray) ++ itoaB m)) (({ data := #[112] } : ByteArray) ++ itoaB p) (by have z1 := text_size k W.k8; have z2 := itoaB_size g (by have := W.hg; omega) (by have := W.hg; omega); have z3 := itoaB_size m (by have := W.hm; omega) (by have := W.hm; omega); have z4 := itoaB_size p (by have := W.hp; omega) (by have := W.hp; omega); have z5 := itoaB_size v W.hv.1 W.hv.2; (try simp only [ByteArray.size_append, sz109, sz112, sz61]); omega)
  clear R T W
  go_enter Tryd.func11, Tryd.ntmps11
  go_wp2_with fail
  refine (RI.out _ H0.out.r).mono ?_
  rintro e w1 ⟨rfl, rfl⟩
  go_wp2_with fail
  refine (RA.out _).mono ?_
  rintro e w2 ⟨rfl, hb⟩
  have H2 := hid (H0.out.below hb)
  clear c0 c1 c2 c3 c4 hb H0
  obtain ⟨c0, c1, c2, c3, c4⟩ := H2.out.cell
  go_wp2_with fail
  rw [ET.out]
  refine (itoa_any g (by have := HW.out.hg; omega) (by have := HW.out.hg; omega) _ H2.out.t).mono ?_
  rintro e w3 ⟨rfl, hb⟩
  have H3 := hid (H2.out.below hb)
  clear c0 c1 c2 c3 c4 hb H2
  obtain ⟨c0, c1, c2, c3, c4⟩ := H3.out.cell
  go_wp2_with fail
  refine (itoa_any m (by have := HW.out.hm; omega) (by have := HW.out.hm; omega) _ H3.out.t).mono ?_
  rintro e w4 ⟨rfl, hb⟩
  have H4 := hid (H3.out.below hb)
  clear c0 c1 c2 c3 c4 hb H3
  obtain ⟨c0, c1, c2, c3, c4⟩ := H4.out.cell
  go_wp2_with fail
  refine (itoa_any p (by have := HW.out.hp; omega) (by have := HW.out.hp; omega) _ H4.out.t).mono ?_
  rintro e w5 ⟨rfl, hb⟩
  have H5 := hid (H4.out.below hb)
  clear c0 c1 c2 c3 c4 hb H4
  obtain ⟨c0, c1, c2, c3, c4⟩ := H5.out.cell
  go_wp2
  exact bodyPost_ret (v := .tuple #[.string (((glText k ++ itoaB g) ++ ({ data := #[109] } ++ itoaB m)) ++ ({ data := #[112] } ++ itoaB p)), .int .i64 0]) (by simp [results, Tryd.results11, go_sem]) rfl ⟨rfl, H5.out.bl⟩
set_option maxHeartbeats 4000000 in
theorem word_111 (k : Nat) (g m p v y : Int) (W : Wd k g m p v y) (w : World) (R : GlRunes w) (T : PwTab w) (tm : (m != -1) = true) (tp : (p != -1) = true) (tv : (v != 0) = true) :
    Calls Tryd.prog 11 #[.agg #[.int .i64 k, .int .i64 g, .int .i64 m, .int .i64 p, .int .i64 v]] w fun e w' => e = .returned (.tuple #[.string ((((glText k ++ itoaB g) ++ ({ data := #[109] } ++ itoaB m)) ++ ({ data := #[112] } ++ itoaB p)) ++ ({ data := #[61] } ++ itoaB v)), .int .i64 0]) ∧ Below w.heap.size w w' := by
  have H0 := hid (Gb.new R T k g m p v)
  have RA := hid (fun w => right_any k g m p v w)
  rw [W.hr] at RA
  have ET := hid (enc_text k W.k8)
  have RI := hid (rune_in k W.k8)
  rw [← W.y0] at RI ET
  have HW := hid W
  obtain ⟨c0, c1, c2, c3, c4⟩ := H0.out.cell
  have ad0 := fun w => run_string_add_sum (P := Tryd.prog) w (glText k) (itoaB g) (by have z1 := text_size k W.k8; have z2 := itoaB_size g (by have := W.hg; omega) (by have := W.hg; omega); have z3 := itoaB_size m (by have := W.hm; omega) (by have := W.hm; omega); have z4 := itoaB_size p (by have := W.hp; omega) (by have := W.hp; omega); have z5 := itoaB_size v W.hv.1 W.hv.2; (try simp only [ByteArray.size_append, sz109, sz112, sz61]); omega)
  have ad1 := fun w => run_string_add_sum (P := Tryd.prog) w (({ data := #[109] } : ByteArray)) (itoaB m) (by have z1 := text_size k W.k8; have z2 := itoaB_size g (by have := W.hg; omega) (by have := W.hg; omega); have z3 := itoaB_size m (by have := W.hm; omega) (by have := W.hm; omega); have z4 := itoaB_size p (by have := W.hp; omega) (by have := W.hp; omega); have z5 := itoaB_size v W.hv.1 W.hv.2; (try simp only [ByteArray.size_append, sz109, sz112, sz61]); omega)
  have ad2 := fun w => run_string_add_sum (P := Tryd.prog) w (glText k ++ itoaB g) (({ data := #[109] } : ByteArray) ++ itoaB m) (by have z1 := text_size k W.k8; have z2 := itoaB_size g (by have := W.hg; omega) (by have := W.hg; omega); have z3 := itoaB_size m (by have := W.hm; omega) (by have := W.hm; omega); have z4 := itoaB_size p (by have := W.hp; omega) (by have := W.hp; omega); have z5 := itoaB_size v W.hv.1 W.hv.2; (try simp only [ByteArray.size_append, sz109, sz112, sz61]); omega)
  have ad3 := fun w => run_string_add_sum (P := Tryd.prog) w (({ data := #[112] } : ByteArray)) (itoaB p) (by have z1 := text_size k W.k8; have z2 := itoaB_size g (by have := W.hg; omega) (by have := W.hg; omega); have z3 := itoaB_size m (by have := W.hm; omega) (by have := W.hm; omega); have z4 := itoaB_size p (by have := W.hp; omega) (by have := W.hp; omega); have z5 := itoaB_size v W.hv.1 W.hv.2; (try simp only [ByteArray.size_append, sz109, sz112, sz61]); omega)
  have ad4 := fun w => run_string_add_sum (P := Tryd.prog) w ((glText k ++ itoaB g) ++ (({ data := #[109] } : ByteArray) ++ itoaB m)) (({ data := #[112] } : ByteArray) ++ itoaB p) (by have z1 := text_size k W.k8; have z2 := itoaB_size g (by have := W.hg; omega) (by have := W.hg; omega); have z3 := itoaB_size m (by have := W.hm; omega) (by have := W.hm; omega); have z4 := itoaB_size p (by have := W.hp; omega) (by have := W.hp; omega); have z5 := itoaB_size v W.hv.1 W.hv.2; (try simp only [ByteArray.size_append, sz109, sz112, sz61]); omega)
  have ad5 := fun w => run_string_add_sum (P := Tryd.prog) w (({ data := #[61] } : ByteArray)) (itoaB v) (by have z1 := text_size k W.k8; have z2 := itoaB_size g (by have := W.hg; omega) (by have := W.hg; omega); have z3 := itoaB_size m (by have := W.hm; omega) (by have := W.hm; omega); have z4 := itoaB_size p (by have := W.hp; omega) (by have := W.hp; omega); have z5 := itoaB_size v W.hv.1 W.hv.2; (try simp only [ByteArray.size_append, sz109, sz112, sz61]); omega)
  have ad6 := fun w => run_string_add_sum (P := Tryd.prog) w (((glText k ++ itoaB g) ++ (({ data := #[109] } : ByteArray) ++ itoaB m)) ++ (({ data := #[112] } : ByteArray) ++ itoaB p)) (({ data := #[61] } : ByteArray) ++ itoaB v) (by have z1 := text_size k W.k8; have z2 := itoaB_size g (by have := W.hg; omega) (by have := W.hg; omega); have z3 := itoaB_size m (by have := W.hm; omega) (by have := W.hm; omega); have z4 := itoaB_size p (by have := W.hp; omega) (by have := W.hp; omega); have z5 := itoaB_size v W.hv.1 W.hv.2; (try simp only [ByteArray.size_append, sz109, sz112, sz61]); omega)
  clear R T W
  go_enter Tryd.func11, Tryd.ntmps11
  go_wp2_with fail
  refine (RI.out _ H0.out.r).mono ?_
  rintro e w1 ⟨rfl, rfl⟩
  go_wp2_with fail
  refine (RA.out _).mono ?_
  rintro e w2 ⟨rfl, hb⟩
  have H2 := hid (H0.out.below hb)
  clear c0 c1 c2 c3 c4 hb H0
  obtain ⟨c0, c1, c2, c3, c4⟩ := H2.out.cell
  go_wp2_with fail
  rw [ET.out]
  refine (itoa_any g (by have := HW.out.hg; omega) (by have := HW.out.hg; omega) _ H2.out.t).mono ?_
  rintro e w3 ⟨rfl, hb⟩
  have H3 := hid (H2.out.below hb)
  clear c0 c1 c2 c3 c4 hb H2
  obtain ⟨c0, c1, c2, c3, c4⟩ := H3.out.cell
  go_wp2_with fail
  refine (itoa_any m (by have := HW.out.hm; omega) (by have := HW.out.hm; omega) _ H3.out.t).mono ?_
  rintro e w4 ⟨rfl, hb⟩
  have H4 := hid (H3.out.below hb)
  clear c0 c1 c2 c3 c4 hb H3
  obtain ⟨c0, c1, c2, c3, c4⟩ := H4.out.cell
  go_wp2_with fail
  refine (itoa_any p (by have := HW.out.hp; omega) (by have := HW.out.hp; omega) _ H4.out.t).mono ?_
  rintro e w5 ⟨rfl, hb⟩
  have H5 := hid (H4.out.below hb)
  clear c0 c1 c2 c3 c4 hb H4
  obtain ⟨c0, c1, c2, c3, c4⟩ := H5.out.cell
  go_wp2_with fail
  refine (fmt10 v (by have := HW.out.hv; omega) (by have := HW.out.hv; omega) _ H5.out.t).mono ?_
  rintro e w6 ⟨rfl, hb⟩
  have H6 := hid (H5.out.below hb)
  clear c0 c1 c2 c3 c4 hb H5
  obtain ⟨c0, c1, c2, c3, c4⟩ := H6.out.cell
  go_wp2
  exact bodyPost_ret (v := .tuple #[.string ((((glText k ++ itoaB g) ++ ({ data := #[109] } ++ itoaB m)) ++ ({ data := #[112] } ++ itoaB p)) ++ ({ data := #[61] } ++ itoaB v)), .int .i64 0]) (by simp [results, Tryd.results11, go_sem]) rfl ⟨rfl, H6.out.bl⟩
theorem word_any (k : Nat) (g m p v : Int) (hr : evRight k g m p v = true) (hv : -9223372036854775808 ≤ v ∧ v ≤ 9223372036854775807) (w : World) (R : GlRunes w) (T : PwTab w) :
    Calls Tryd.prog 11 #[.agg #[.int .i64 k, .int .i64 g, .int .i64 m, .int .i64 p, .int .i64 v]] w fun e w' => e = .returned (.tuple #[.string (wordB k g m p v), .int .i64 0]) ∧ Below w.heap.size w w' := by
  obtain ⟨⟨_, k8⟩, hg, hm, hp⟩ := right_all hr
  have W : Wd k g m p v (glRune0 k) := ⟨by omega, hg, hm, hp, hv, rfl, hr⟩
  unfold wordB wordP wordM wordG
  by_cases m1 : m = -1 <;> by_cases p1 : p = -1 <;> by_cases v1 : v = 0
  · rw [if_pos m1, if_pos p1, if_pos v1]; exact word_000 k g m p v _ W w R T (by simp [m1]) (by simp [p1]) (by simp [v1])
  · rw [if_pos m1, if_pos p1, if_neg v1]; exact word_001 k g m p v _ W w R T (by simp [m1]) (by simp [p1]) (by simp [v1])
  · rw [if_pos m1, if_neg p1, if_pos v1]; exact word_010 k g m p v _ W w R T (by simp [m1]) (by simp [p1]) (by simp [v1])
  · rw [if_pos m1, if_neg p1, if_neg v1]; exact word_011 k g m p v _ W w R T (by simp [m1]) (by simp [p1]) (by simp [v1])
  · rw [if_neg m1, if_pos p1, if_pos v1]; exact word_100 k g m p v _ W w R T (by simp [m1]) (by simp [p1]) (by simp [v1])
  · rw [if_neg m1, if_pos p1, if_neg v1]; exact word_101 k g m p v _ W w R T (by simp [m1]) (by simp [p1]) (by simp [v1])
  · rw [if_neg m1, if_neg p1, if_pos v1]; exact word_110 k g m p v _ W w R T (by simp [m1]) (by simp [p1]) (by simp [v1])
  · rw [if_neg m1, if_neg p1, if_neg v1]; exact word_111 k g m p v _ W w R T (by simp [m1]) (by simp [p1]) (by simp [v1])
theorem ev5c {w : World} {B : Nat} {k g m p v : Int} {t : TypeId} (h : w.heap[B]? = some (.cells #[.int .i64 k, .int .i64 g, .int .i64 m, .int .i64 p, .int .i64 v] t (0, 0))) :
    w.cell? ⟨B, 0, none⟩ = some (.int .i64 k) ∧ w.cell? ⟨B, 1, none⟩ = some (.int .i64 g) ∧ w.cell? ⟨B, 2, none⟩ = some (.int .i64 m) ∧ w.cell? ⟨B, 3, none⟩ = some (.int .i64 p) ∧ w.cell? ⟨B, 4, none⟩ = some (.int .i64 v) := by simp [World.cell?, h]
theorem word_bad (k g m p v : Int) (hr : evRight k g m p v = false) (w : World) (R : GlRunes w) :
    Calls Tryd.prog 11 #[.agg #[.int .i64 k, .int .i64 g, .int .i64 m, .int .i64 p, .int .i64 v]] w fun e w' => e = .returned (.tuple #[.string { data := #[] }, .int .i64 1]) ∧ Below w.heap.size w w' := by
  have hb0 : Below w.heap.size w (w.alloc (.cells #[.int .i64 k, .int .i64 g, .int .i64 m, .int .i64 p, .int .i64 v] 29)) := (Below.refl _ _).alloc (Nat.le_refl _) _
  have BX := hid hb0
  have HR := hid (R.at hb0)
  have RA := hid (fun w => right_any k g m p v w)
  rw [hr] at RA
  have hbx := heap_alloc_new w (.cells #[.int .i64 k, .int .i64 g, .int .i64 m, .int .i64 p, .int .i64 v] 29)
  obtain ⟨c0, c1, c2, c3, c4⟩ := ev5c hbx
  by_cases hk : k < 0 ∨ 7 < k
  · have RO := hid (fun w => rune_out k hk w)
    clear hb0 hr hbx hk R
    go_enter Tryd.func11, Tryd.ntmps11
    go_wp2_with fail
    refine (RO.out _).mono ?_
    rintro e w1 ⟨rfl, rfl⟩
    go_wp2
    exact bodyPost_ret (v := .tuple #[.string { data := #[] }, .int .i64 1]) (by simp [results, Tryd.results11, go_sem]) rfl ⟨rfl, BX.out⟩
  · obtain ⟨j, rfl⟩ : ∃ j : Nat, k = j := ⟨k.toNat, by omega⟩
    have RI := hid (rune_in j (by omega))
    clear hb0 hr hbx hk R
    go_enter Tryd.func11, Tryd.ntmps11
    go_wp2_with fail
    refine (RI.out _ HR.out).mono ?_
    rintro e w1 ⟨rfl, rfl⟩
    go_wp2_with fail
    refine (RA.out _).mono ?_
    rintro e w2 ⟨rfl, hb⟩
    have B2 := hid (BX.out.trans (hb.mono BX.out.size))
    clear hb
    go_wp2
    exact bodyPost_ret (v := .tuple #[.string { data := #[] }, .int .i64 1]) (by simp [results, Tryd.results11, go_sem]) rfl ⟨rfl, B2.out⟩
end Go.Proofs.YtnaphgjkkagpoaaDoor
