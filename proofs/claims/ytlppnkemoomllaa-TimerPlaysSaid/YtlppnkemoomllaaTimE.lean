/- timer.Timers as one row in order: what each method answers and leaves. -/
import Derived.Test.YtlppnkemoomllaaTimN
namespace Go.Proofs.Ytlppnkemoomllaa
set_option linter.unusedVariables false
set_option linter.unusedSimpArgs false
open Go.RowKit Tk

/-- Has a goroutine one? -/
def hasG (L : List En) (g : Int) : Bool := decide (g ∈ L.map fun e => e.2.2)
/-- The timers at block t: all of them in order are L; ad were added. -/
def Te (Z : Nat → Prop) (w : World) (t n : Nat) (es : Nat → List En) (L : List En) (ad : Nat) : Prop :=
  (∃ hb mb c hp v, Tq Z w t hb mb n c hp v es (hasG L) L.length ad) ∧ sortE (allE n es) = L ∧ (L.map fun e => e.2.2).Nodup
section
variable {Z : Nat → Prop} {w w' : World} {t n ad : Nat} {es : Nat → List En} {L l : List En}
theorem len_allE {p : Nat} : ∀ n, p < n → (es p).length ≤ (allE n es).length
  | 0, h => by omega
  | n + 1, h => by
    rw [allE_succ, List.length_append]
    rcases Nat.lt_or_ge p n with h1 | h1
    · have := len_allE n h1; omega
    · obtain rfl : p = n := by omega
      omega
theorem hasG_ins (x : En) (L : List En) (g : Int) : hasG (insF x L) g = (decide (g = x.2.2) || hasG L g) := by
  have h := ((insF_perm x L).map fun e => e.2.2).mem_iff (a := g)
  simp only [hasG]
  rw [← Bool.decide_or]
  exact decide_eq_decide.2 (h.trans (by simp))
theorem len_ins (x : En) (L : List En) : (insF x L).length = L.length + 1 := (insF_perm x L).length_eq
theorem Te.below (h : Te Z w t n es L ad) (hb : Below w.heap.size w w') : Te Z w' t n es L ad := by
  obtain ⟨⟨hb', mb, c, hp, v, h1⟩, h2⟩ := h
  exact ⟨⟨hb', mb, c, hp, v, h1.below hb⟩, h2⟩
theorem Te.lt (h : Te Z w t n es L ad) : t < w.heap.size := by
  obtain ⟨⟨hb', mb, c, hp, v, h1⟩, h2⟩ := h
  exact h1.lt.1
theorem te_len (h : Te Z w t n es L ad) : Calls Try.prog 14 #[.pointer (some ⟨t, 0, none⟩)] w fun e w' => e = .returned (.int .i64 L.length) ∧ w' = w := by
  obtain ⟨⟨hb', mb, c, hp, v, h1⟩, h2⟩ := h
  exact tlen h1
theorem te_has (h : Te Z w t n es L ad) (a : Int) (r : Bool) (hr : hasG L a = r) : Calls Try.prog 15 #[.pointer (some ⟨t, 0, none⟩), .int .i64 a] w fun e w' => e = .returned (.bool r) ∧ w' = w := by
  obtain ⟨⟨hb', mb, c, hp, v, h1⟩, h2⟩ := h
  rw [← hr]
  exact thas h1 a
theorem te_arg (h : Te Z w t n es L ad) (p g x : Int) (hbad : p < 0 ∨ (n : Int) ≤ p ∨ g < 0 ∨ 4096 ≤ g) : Calls Try.prog 10 #[.pointer (some ⟨t, 0, none⟩), .int .i64 p, .int .i64 g, .int .i64 x] w fun e w' => e = .returned (.int .i64 1) ∧ w' = w := by
  obtain ⟨⟨hb', mb, c, hp, v, h1⟩, h2⟩ := h
  exact tadd_arg h1 p g x hbad
theorem te_same (h : Te Z w t n es L ad) (p g : Nat) (hpn : p < n) (hg : g < 4096) (x : Int) (hi : hasG L g = true) : Calls Try.prog 10 #[.pointer (some ⟨t, 0, none⟩), .int .i64 p, .int .i64 g, .int .i64 x] w fun e w' => e = .returned (.int .i64 8) ∧ w' = w := by
  obtain ⟨⟨hb', mb, c, hp, v, h1⟩, h2⟩ := h
  exact tadd_same h1 p g hpn hg x hi
/-- One more. -/
def TeAdd (Z : Nat → Prop) (w : World) (t n : Nat) (es : Nat → List En) (L : List En) (ad p : Nat) (y : En) (w' : World) : Prop :=
  FrZ Z w w' ∧ ∃ T, T.Perm (y :: es p) ∧ Te Z w' t n (updN es p T) (insF y L) (ad + 1)
theorem te_add (h : Te Z w t n es L ad) (hz : ∀ q, Z q → q < w.heap.size) (p g : Nat) (hpn : p < n) (hg : g < 4096) (x : Int) (hi : hasG L g = false) (hl : L.length < 100000) (had : ad < 1000000) :
    Calls Try.prog 10 #[.pointer (some ⟨t, 0, none⟩), .int .i64 p, .int .i64 g, .int .i64 x] w fun e w' => e = .returned (.int .i64 0) ∧ TeAdd Z w t n es L ad p (x, (ad : Int), (g : Int)) w' := by
  obtain ⟨⟨hb', mb, c, hp, v, h1⟩, h2, h3⟩ := h
  have hlen : (es p).length < 100000 := by
    have a := len_allE (es := es) n hpn
    have b := sort_len (allE n es)
    rw [h2] at b; omega
  refine (tadd h1 hz p g hpn hg x hi hlen had).mono ?_
  rintro e w2 ⟨rfl, hf, v', T, hT, hq⟩
  refine ⟨rfl, hf, T, hT, ⟨hb', mb, c, hp, updN v p v', ?_⟩, ?_, ?_⟩
  · rw [len_ins]
    rw [show hasG (insF (x, (ad : Int), (g : Int)) L) = updI (hasG L) g true from funext fun a => by rw [hasG_ins]; by_cases ha : a = g <;> simp [updI, ha]]
    exact hq
  · rw [sort_perm (allE_add hT n hpn), insF_sort, h2]
  · rw [((insF_perm _ L).map fun e => e.2.2).nodup_iff]
    simp only [List.map_cons, List.nodup_cons]
    exact ⟨by simpa [hasG] using hi, h3⟩
theorem te_addI (h : Te Z w t n es L ad) (hz : ∀ q, Z q → q < w.heap.size) (p g : Int) (hp0 : 0 ≤ p) (hpn : p < n) (hg0 : 0 ≤ g) (hg : g < 4096) (x : Int) (hi : hasG L g = false) (hl : L.length < 100000) (had : ad < 1000000) :
    Calls Try.prog 10 #[.pointer (some ⟨t, 0, none⟩), .int .i64 p, .int .i64 g, .int .i64 x] w fun e w' => e = .returned (.int .i64 0) ∧ TeAdd Z w t n es L ad p.toNat (x, (ad : Int), g) w' := by
  obtain ⟨p, rfl⟩ := Int.eq_ofNat_of_zero_le hp0
  obtain ⟨g, rfl⟩ := Int.eq_ofNat_of_zero_le hg0
  exact te_add h hz p g (by omega) (by omega) x hi hl had
theorem te_sameI (h : Te Z w t n es L ad) (p g : Int) (hp0 : 0 ≤ p) (hpn : p < n) (hg0 : 0 ≤ g) (hg : g < 4096) (x : Int) (hi : hasG L g = true) : Calls Try.prog 10 #[.pointer (some ⟨t, 0, none⟩), .int .i64 p, .int .i64 g, .int .i64 x] w fun e w' => e = .returned (.int .i64 8) ∧ w' = w := by
  obtain ⟨p, rfl⟩ := Int.eq_ofNat_of_zero_le hp0
  obtain ⟨g, rfl⟩ := Int.eq_ofNat_of_zero_le hg0
  exact te_same h p g (by omega) (by omega) x hi
/-- What is below a bound, and foreign, is as it was. -/
theorem TeAdd.bl {p : Nat} {y : En} (h : TeAdd Z w t n es L ad p y w') {B : Nat} (hB : ∀ q, q < B → Z q) (hs : B ≤ w.heap.size) : Below B w w' := h.1.below hB hs
theorem te_none (h : Te Z w t n es L ad) (now : Int) (hs : ∀ x l, L = x :: l → now < x.1) : Calls Try.prog 8 #[.pointer (some ⟨t, 0, none⟩), .int .i64 now] w (NonePost w) := by
  obtain ⟨⟨hb', mb, c, hp, v, h1⟩, h2, h3⟩ := h
  exact ttake_none h1 now (fun x l e => hs x l (h2.symm.trans e))
/-- One is taken. -/
def TeTake (Z : Nat → Prop) (w : World) (t n : Nat) (es : Nat → List En) (l : List En) (ad : Nat) (y : En) (w' : World) : Prop :=
  FrZ Z w w' ∧ ∃ m T, m < n ∧ (es m).Perm (y :: T) ∧ Te Z w' t n (updN es m T) l ad
theorem TeTake.bl {y : En} (h : TeTake Z w t n es l ad y w') {B : Nat} (hB : ∀ q, q < B → Z q) (hs : B ≤ w.heap.size) : Below B w w' := h.1.below hB hs
theorem te_take {x1 x2 x3 : Int} (h : Te Z w t n es ((x1, x2, x3) :: l) ad) (hz : ∀ q, Z q → q < w.heap.size) (now : Int) (hnow : x1 ≤ now) :
    Calls Try.prog 8 #[.pointer (some ⟨t, 0, none⟩), .int .i64 now] w fun e w' => e = .returned (.tuple #[.agg #[.int .i64 x1, .int .u64 x2, .int .i64 x3], .bool true]) ∧ TeTake Z w t n es l ad (x1, x2, x3) w' := by
  obtain ⟨⟨hb', mb, c, hp, v, h1⟩, h2, h3⟩ := h
  simp only [List.map_cons, List.nodup_cons] at h3
  refine (ttake_some h1 hz h2 now hnow (by simp [hasG])).mono ?_
  rintro e w2 ⟨rfl, hf, m, v', T, hm, hT, hq⟩
  refine ⟨rfl, hf, m, T, hm, hT, ⟨hb', mb, c, hp, updN v m v', ?_⟩, ?_, h3.2⟩
  · rw [show hasG l = updI (hasG ((x1, x2, x3) :: l)) x3 false from funext fun a => by
      by_cases ha : a = x3
      · subst ha; simp only [updI, if_true, hasG]; exact decide_eq_false h3.1
      · simp [updI, ha, hasG]]
    exact hq
  · have p1 : (x1, x2, x3) :: l = sortE (allE n es) := h2.symm
    have p2 : ((x1, x2, x3) :: l).Perm ((x1, x2, x3) :: allE n (updN es m T)) := by rw [p1]; exact (sortE_perm _).trans (allE_take hT hm)
    have p3 := (List.perm_cons _).1 p2
    have hs : ((x1, x2, x3) :: l).Pairwise leE := by rw [p1]; exact sortE_ord _
    exact ord_unique _ _ ((sortE_perm _).trans p3.symm) (sortE_ord _) (List.pairwise_cons.1 hs).2
theorem te_next0 (h : Te Z w t n es [] ad) : Calls Try.prog 13 #[.pointer (some ⟨t, 0, none⟩)] w fun e w' => e = .returned (.tuple #[.int .i64 0, .bool false]) ∧ Below w.heap.size w w' := by
  obtain ⟨⟨hb', mb, c, hp, v, h1⟩, h2, h3⟩ := h
  exact tnext_none h1 h2
theorem te_next {x1 x2 x3 : Int} (h : Te Z w t n es ((x1, x2, x3) :: l) ad) : Calls Try.prog 13 #[.pointer (some ⟨t, 0, none⟩)] w fun e w' => e = .returned (.tuple #[.int .i64 x1, .bool true]) ∧ Below w.heap.size w w' := by
  obtain ⟨⟨hb', mb, c, hp, v, h1⟩, h2, h3⟩ := h
  exact tnext_some h1 h2
/-- Is the first one due? -/
def dueL (L : List En) (x : Int) : Bool := match L with | [] => false | y :: _ => decide (y.1 ≤ x)
theorem te_due (h : Te Z w t n es L ad) (x : Int) (r : Bool) (hr : dueL L x = r) : Calls Try.prog 17 #[.pointer (some ⟨t, 0, none⟩), .int .i64 x] w fun e w' => e = .returned (.bool r) ∧ Below w.heap.size w w' := by
  obtain ⟨⟨hb', mb, c, hp, v, h1⟩, h2, h3⟩ := h
  rcases L with _ | ⟨⟨x1, x2, x3⟩, l⟩
  · obtain rfl : r = false := hr.symm
    exact tdue_none h1 h2 x
  · exact tdue_some h1 h2 x r hr
theorem te_new (n : Nat) (hn : 1 ≤ (n : Int)) (hn2 : (n : Int) ≤ 64) (w : World) : Calls Try.prog 5 #[.int .i64 n] w fun e w' => e = .returned (.pointer (some ⟨w.heap.size + 1, 0, none⟩)) ∧
    Te (fun q => q < w.heap.size) w' (w.heap.size + 1) n (fun _ => []) [] 0 ∧ Below w.heap.size w w' := by
  refine (tnew n hn hn2 w).mono ?_
  rintro e w2 ⟨rfl, hb', c, hp, h1, h2⟩
  have e0 : allE n (fun _ => ([] : List En)) = [] := allE_nil (fun _ _ => rfl)
  exact ⟨rfl, ⟨⟨hb', _, c, hp, _, by rw [show hasG [] = fun _ => false from funext fun a => by simp [hasG]]; exact h1⟩, by rw [e0]; simp [sortE], by simp⟩, h2⟩
end
end Go.Proofs.Ytlppnkemoomllaa
