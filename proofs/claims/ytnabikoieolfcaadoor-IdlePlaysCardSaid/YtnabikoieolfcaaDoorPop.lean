/- Plain facts: how many bits of a number are set, reckoned by bytes (as the library's OnesCount64 does). Nothing of the program. -/
import Derived.Test.YtnabikoieolfcaaDoorBase
namespace Go.Proofs.YtnabikoieolfcaaDoor
set_option linter.unusedVariables false

/-- How many of the lowest n bits are set. -/
def pop : Nat → Nat → Nat
  | 0, _ => 0
  | n + 1, x => x % 2 + pop n (x / 2)
/-- The byte p, n times. -/
def rep (p : Nat) : Nat → Nat
  | 0 => 0
  | n + 1 => p + 256 * rep p n
/-- A function of each of n bytes. -/
def bmap (f : Nat → Nat) : Nat → Nat → Nat
  | 0, _ => 0
  | n + 1, x => f (x % 256) + 256 * bmap f n (x / 256)
theorem and_low (a p y q : Nat) (ha : a < 256) (hp : p < 256) : (a + 256 * y) &&& (p + 256 * q) = (a &&& p) + 256 * (y &&& q) := by
  have hap : a &&& p < 2 ^ 8 := Nat.and_lt_two_pow _ hp
  apply Nat.eq_of_testBit_eq
  intro i
  have e1 := Nat.testBit_two_pow_mul_add y (b := a) (i := 8) ha i
  have e2 := Nat.testBit_two_pow_mul_add q (b := p) (i := 8) hp i
  have e3 := Nat.testBit_two_pow_mul_add (y &&& q) (b := a &&& p) (i := 8) hap i
  rw [Nat.add_comm a, Nat.add_comm p, Nat.add_comm (a &&& p), Nat.testBit_and]
  rw [e1, e2, e3]
  split
  · rw [Nat.testBit_and]
  · rw [Nat.testBit_and]
def f1 (a : Nat) : Nat := (a / 2 &&& 85) + (a &&& 85)
def f2 (a : Nat) : Nat := (a / 4 &&& 51) + (a &&& 51)
def f3 (a : Nat) : Nat := (a + a / 16) &&& 15
theorem f1_cross : ∀ a : Fin 256, ∀ t : Fin 2, ((a.val / 2 + 128 * t.val) &&& 85) + (a.val &&& 85) = f1 a.val := by decide +kernel
theorem f2_cross : ∀ a : Fin 256, ∀ t : Fin 4, ((a.val / 4 + 64 * t.val) &&& 51) + (a.val &&& 51) = f2 a.val := by decide +kernel
theorem f1_lt : ∀ a : Fin 256, f1 a.val < 256 := by decide +kernel
theorem f2_lt : ∀ a : Fin 256, f2 (f1 a.val) ≤ 68 ∧ f2 (f1 a.val) % 16 ≤ 4 := by decide +kernel
theorem f3_cross : ∀ a : Fin 69, ∀ t : Fin 5, ((a.val + a.val / 16 + 16 * t.val) &&& 15) = f3 a.val := by decide +kernel
theorem f_pop : ∀ a : Fin 256, f3 (f2 (f1 a.val)) = pop 8 a.val := by decide +kernel
theorem stage1 (n : Nat) : ∀ x, ((x / 2) &&& rep 85 n) + (x &&& rep 85 n) = bmap f1 n x := by
  induction n with
  | zero => intro x; simp [rep, bmap]
  | succ n ih =>
    intro x
    have hx : x = x % 256 + 256 * (x / 256) := by omega
    have hx2 : x / 2 = (x % 256 / 2 + 128 * (x / 256 % 2)) + 256 * (x / 256 / 2) := by omega
    have c := f1_cross ⟨x % 256, by omega⟩ ⟨x / 256 % 2, by omega⟩
    simp only at c
    have i := ih (x / 256)
    simp only [rep, bmap]
    rw [hx2, and_low _ _ _ _ (by omega) (by omega)]
    conv => lhs; rhs; rw [hx]
    rw [and_low _ _ _ _ (by omega) (by omega)]
    omega
theorem stage2 (n : Nat) : ∀ x, ((x / 4) &&& rep 51 n) + (x &&& rep 51 n) = bmap f2 n x := by
  induction n with
  | zero => intro x; simp [rep, bmap]
  | succ n ih =>
    intro x
    have hx : x = x % 256 + 256 * (x / 256) := by omega
    have hx2 : x / 4 = (x % 256 / 4 + 64 * (x / 256 % 4)) + 256 * (x / 256 / 4) := by omega
    have c := f2_cross ⟨x % 256, by omega⟩ ⟨x / 256 % 4, by omega⟩
    simp only at c
    have i := ih (x / 256)
    simp only [rep, bmap]
    rw [hx2, and_low _ _ _ _ (by omega) (by omega)]
    conv => lhs; rhs; rw [hx]
    rw [and_low _ _ _ _ (by omega) (by omega)]
    omega
/-- All of n bytes are such. -/
def ball (P : Nat → Prop) : Nat → Nat → Prop
  | 0, x => x = 0
  | n + 1, x => P (x % 256) ∧ ball P n (x / 256)
theorem stage3 (n : Nat) : ∀ x, ball (fun a => a ≤ 68 ∧ a % 16 ≤ 4) n x → ((x / 16 + x) &&& rep 15 n) = bmap f3 n x := by
  induction n with
  | zero => intro x h; simp [rep, bmap]
  | succ n ih =>
    intro x h
    obtain ⟨⟨h1, h2⟩, h3⟩ := h
    have i := ih (x / 256) h3
    have hy : x / 256 % 16 ≤ 4 := by
      rcases n with _ | n
      · have : x / 256 = 0 := h3
        omega
      · have := h3.1.2
        omega
    have hx2 : x / 16 + x = (x % 256 + x % 256 / 16 + 16 * (x / 256 % 16)) + 256 * (x / 256 / 16 + x / 256) := by omega
    have c := f3_cross ⟨x % 256, by omega⟩ ⟨x / 256 % 16, by omega⟩
    simp only at c
    simp only [rep, bmap]
    rw [hx2, and_low _ _ _ _ (by omega) (by omega)]
    omega
theorem bmap_lt (f : Nat → Nat) (hf : ∀ a, a < 256 → f a < 256) (n : Nat) : ∀ x, bmap f n x < 256 ^ n := by
  induction n with
  | zero => intro x; simp [bmap]
  | succ n ih =>
    intro x
    have h1 := hf (x % 256) (by omega)
    have h2 := ih (x / 256)
    simp only [bmap, Nat.pow_succ]
    omega
theorem bmap_comp (f g : Nat → Nat) (hg : ∀ a, a < 256 → g a < 256) (n : Nat) : ∀ x, bmap f n (bmap g n x) = bmap (fun a => f (g a)) n x := by
  induction n with
  | zero => intro x; simp [bmap]
  | succ n ih =>
    intro x
    have h1 := hg (x % 256) (by omega)
    simp only [bmap]
    rw [show (g (x % 256) + 256 * bmap g n (x / 256)) % 256 = g (x % 256) by omega, show (g (x % 256) + 256 * bmap g n (x / 256)) / 256 = bmap g n (x / 256) by omega, ih]
theorem bmap_ball (f : Nat → Nat) (P : Nat → Prop) (hf : ∀ a, a < 256 → f a < 256 ∧ P (f a)) (n : Nat) : ∀ x, ball P n (bmap f n x) := by
  induction n with
  | zero => intro x; rfl
  | succ n ih =>
    intro x
    have h1 := hf (x % 256) (by omega)
    simp only [bmap, ball]
    rw [show (f (x % 256) + 256 * bmap f n (x / 256)) % 256 = f (x % 256) by omega, show (f (x % 256) + 256 * bmap f n (x / 256)) / 256 = bmap f n (x / 256) by omega]
    exact ⟨h1.2, ih _⟩
theorem bmap_congr (f g : Nat → Nat) (h : ∀ a, a < 256 → f a = g a) (n : Nat) : ∀ x, bmap f n x = bmap g n x := by
  induction n with
  | zero => intro x; rfl
  | succ n ih => intro x; simp only [bmap]; rw [ih, h _ (by omega)]
theorem pop_split (n : Nat) : ∀ m x, pop (n + m) x = pop n x + pop m (x / 2 ^ n) := by
  induction n with
  | zero => intro m x; simp [pop]
  | succ n ih =>
    intro m x
    rw [show n + 1 + m = (n + m) + 1 by omega]
    simp only [pop]
    rw [ih, Nat.div_div_eq_div_mul, Nat.pow_succ, Nat.mul_comm 2]
    omega
theorem pop_mod (n : Nat) : ∀ m x, n ≤ m → pop n (x % 2 ^ m) = pop n x := by
  induction n with
  | zero => intro m x _; rfl
  | succ n ih =>
    intro m x h
    obtain ⟨k, rfl⟩ : ∃ k, m = k + 1 := ⟨m - 1, by omega⟩
    simp only [pop]
    have e1 : x % 2 ^ (k + 1) % 2 = x % 2 := Nat.mod_mod_of_dvd _ ⟨2 ^ k, by rw [Nat.pow_succ, Nat.mul_comm]⟩
    have e2 : x % 2 ^ (k + 1) / 2 = x / 2 % 2 ^ k := by
      rw [Nat.pow_succ, Nat.mul_comm, Nat.mod_mul_right_div_self]
    rw [e1, e2, ih k _ (by omega)]
theorem sum8 (p0 p1 p2 p3 p4 p5 p6 p7 y y1 y2 y3 : Nat) (h0 : p0 ≤ 8) (h1 : p1 ≤ 8) (h2 : p2 ≤ 8) (h3 : p3 ≤ 8) (h4 : p4 ≤ 8) (h5 : p5 ≤ 8) (h6 : p6 ≤ 8) (h7 : p7 ≤ 8)
    (hy : y = p0 + 256 * (p1 + 256 * (p2 + 256 * (p3 + 256 * (p4 + 256 * (p5 + 256 * (p6 + 256 * p7))))))) (e1 : y1 = y + y / 256) (e2 : y2 = y1 + y1 / 65536) (e3 : y3 = y2 + y2 / 4294967296) :
    y1 < 18446744073709551616 ∧ y2 < 18446744073709551616 ∧ y3 < 9223372036854775808 ∧ y3 % 128 = p0 + p1 + p2 + p3 + p4 + p5 + p6 + p7 := by
  obtain ⟨q6, g6⟩ : ∃ q, q = p6 + 256 * p7 := ⟨_, rfl⟩
  obtain ⟨q5, g5⟩ : ∃ q, q = p5 + 256 * q6 := ⟨_, rfl⟩
  obtain ⟨q4, g4⟩ : ∃ q, q = p4 + 256 * q5 := ⟨_, rfl⟩
  obtain ⟨q3, g3⟩ : ∃ q, q = p3 + 256 * q4 := ⟨_, rfl⟩
  obtain ⟨q2, g2⟩ : ∃ q, q = p2 + 256 * q3 := ⟨_, rfl⟩
  obtain ⟨q1, g1⟩ : ∃ q, q = p1 + 256 * q2 := ⟨_, rfl⟩
  rw [← g6, ← g5, ← g4, ← g3, ← g2, ← g1] at hy
  have l6 : q6 ≤ 2056 := by omega
  have l5 : q5 ≤ 526344 := by clear g1 g2 g3 g4 hy e1 e2 e3; omega
  have l4 : q4 ≤ 134744072 := by clear g1 g2 g3 g5 g6 hy e1 e2 e3; omega
  have l3 : q3 ≤ 34494482440 := by clear g1 g2 g4 g5 g6 hy e1 e2 e3; omega
  have l2 : q2 ≤ 8830587504648 := by clear g1 g3 g4 g5 g6 hy e1 e2 e3; omega
  have l1 : q1 ≤ 2260630401189896 := by clear g2 g3 g4 g5 g6 hy e1 e2 e3; omega
  have l0 : y ≤ 578721382704613384 := by clear g1 g2 g3 g4 g5 g6 e1 e2 e3; omega
  have d1 : y / 256 = q1 := by clear g1 g2 g3 g4 g5 g6 e1 e2 e3; omega
  have d2 : y1 / 65536 = q2 + q3 := by clear g3 g4 g5 g6 e2 e3; omega
  obtain ⟨s1, k1⟩ : ∃ s, s = q1 + q2 + q3 + q4 := ⟨_, rfl⟩
  obtain ⟨s2, k2⟩ : ∃ s, s = q2 + q3 + q4 + q5 := ⟨_, rfl⟩
  obtain ⟨s3, k3⟩ : ∃ s, s = q3 + q4 + q5 + q6 := ⟨_, rfl⟩
  obtain ⟨s4, k4⟩ : ∃ s, s = q4 + q5 + q6 + p7 := ⟨_, rfl⟩
  obtain ⟨s5, k5⟩ : ∃ s, s = q5 + q6 + p7 := ⟨_, rfl⟩
  have y2e : y2 = y + q1 + q2 + q3 := by omega
  have w0 : y2 = (p0 + p1 + p2 + p3) + 256 * s1 := by clear e1 e2 e3 d1 d2 k2 k3 k4 k5 g4 g5 g6; omega
  have w1 : s1 = (p1 + p2 + p3 + p4) + 256 * s2 := by clear e1 e2 e3 d1 d2 k3 k4 k5 g5 g6 w0 y2e hy; omega
  have w2 : s2 = (p2 + p3 + p4 + p5) + 256 * s3 := by clear e1 e2 e3 d1 d2 k1 k4 k5 g1 g6 w0 w1 y2e hy; omega
  have w3 : s3 = (p3 + p4 + p5 + p6) + 256 * s4 := by clear e1 e2 e3 d1 d2 k1 k2 k5 g1 g2 w0 w1 w2 y2e hy; omega
  have w4 : s4 = (p4 + p5 + p6 + p7) + 256 * s5 := by clear e1 e2 e3 d1 d2 k1 k2 k3 g1 g2 g3 w0 w1 w2 w3 y2e hy; omega
  have d3 : y2 / 4294967296 = s4 := by clear e1 e2 e3 d1 d2 k1 k2 k3 k4 k5 g1 g2 g3 g4 g5 g6 w4 y2e hy; omega
  have w5 : y3 = (p0 + p1 + p2 + p3 + p4 + p5 + p6 + p7) + 256 * (s1 + s5) := by clear e1 e2 d1 d2 k1 k2 k3 k4 k5 g1 g2 g3 g4 g5 g6 w1 w2 w3 y2e hy; omega
  have ly2 : y2 ≤ 1000000000000000000 := by omega
  have ls4 : s4 ≤ 1000000000000 := by omega
  clear k1 k2 k3 k4 k5 g1 g2 g3 g4 g5 g6 w0 w1 w2 w3 w4 y2e hy
  refine ⟨by omega, by omega, by omega, by clear e1 e2 e3 d1 d2 d3; omega⟩
theorem ball_le (P : Nat → Prop) (hP : ∀ a, P a → a ≤ 68) (n : Nat) : ∀ x, ball P n x → x ≤ rep 68 n := by
  induction n with
  | zero => intro x h; exact Nat.le_of_eq h
  | succ n ih =>
    intro x h
    have h1 := hP _ h.1
    have h2 := ih _ h.2
    simp only [rep]
    omega
theorem pop8_le (a : Nat) (h : a < 256) : pop 8 a ≤ 8 := (by decide +kernel : ∀ a : Fin 256, pop 8 a.val ≤ 8) ⟨a, h⟩
/-- WHAT OnesCount64 RECKONS. -/
theorem ones64 (x : Nat) (hx : x < 18446744073709551616) (x1 x2 x3 y1 y2 y3 : Nat)
    (e1 : x1 = (x / 2 &&& 6148914691236517205) + (x &&& 6148914691236517205)) (e2 : x2 = (x1 / 4 &&& 3689348814741910323) + (x1 &&& 3689348814741910323))
    (e3 : x3 = (x2 / 16 + x2) &&& 1085102592571150095) (g1 : y1 = x3 + x3 / 256) (g2 : y2 = y1 + y1 / 65536) (g3 : y3 = y2 + y2 / 4294967296) :
    x1 < 18446744073709551616 ∧ x2 < 5000000000000000000 ∧ x3 < 18446744073709551616 ∧ y1 < 18446744073709551616 ∧ y2 < 18446744073709551616 ∧ y3 < 9223372036854775808 ∧ y3 % 128 = pop 64 x := by
  have m1 : rep 85 8 = 6148914691236517205 := by decide
  have m2 : rep 51 8 = 3689348814741910323 := by decide
  have m3 : rep 15 8 = 1085102592571150095 := by decide
  rw [← m1, stage1] at e1
  rw [← m2, stage2] at e2
  have b1 := bmap_lt f1 (fun a h => f1_lt ⟨a, h⟩) 8 x
  have hc := bmap_comp f2 f1 (fun a h => f1_lt ⟨a, h⟩) 8 x
  rw [e1, hc] at e2
  have hb : ball (fun a => a ≤ 68 ∧ a % 16 ≤ 4) 8 x2 := by
    rw [e2]; exact bmap_ball _ _ (fun a h => by have := f2_lt ⟨a, h⟩; exact ⟨by have := this.1; simp only at this; omega, this⟩) 8 x
  rw [← m3, stage3 8 _ hb, e2, bmap_comp f3 _ (fun a h => by have := (f2_lt ⟨a, h⟩).1; simp only at this; omega), bmap_congr _ (pop 8) (fun a h => f_pop ⟨a, h⟩)] at e3
  have hx2 : x2 < 5000000000000000000 := by
    have h1 := ball_le _ (fun a h => h.1) 8 x2 hb
    have h2 : rep 68 8 = 4919131752989213764 := by decide
    omega
  have q : ∀ n z, pop (8 * (n + 1)) z = pop 8 (z % 256) + pop (8 * n) (z / 256) := by
    intro n z
    rw [show 8 * (n + 1) = 8 + 8 * n by omega, pop_split, ← pop_mod 8 8 z (by omega)]
  have hpop : pop 64 x = pop 8 (x % 256) + (pop 8 (x / 256 % 256) + (pop 8 (x / 256 / 256 % 256) + (pop 8 (x / 256 / 256 / 256 % 256) + (pop 8 (x / 256 / 256 / 256 / 256 % 256) + (pop 8 (x / 256 / 256 / 256 / 256 / 256 % 256) + (pop 8 (x / 256 / 256 / 256 / 256 / 256 / 256 % 256) + pop 8 (x / 256 / 256 / 256 / 256 / 256 / 256 / 256 % 256))))))) := by
    have a7 : ∀ z, pop 64 z = pop 8 (z % 256) + pop 56 (z / 256) := q 7
    have a6 : ∀ z, pop 56 z = pop 8 (z % 256) + pop 48 (z / 256) := q 6
    have a5 : ∀ z, pop 48 z = pop 8 (z % 256) + pop 40 (z / 256) := q 5
    have a4 : ∀ z, pop 40 z = pop 8 (z % 256) + pop 32 (z / 256) := q 4
    have a3 : ∀ z, pop 32 z = pop 8 (z % 256) + pop 24 (z / 256) := q 3
    have a2 : ∀ z, pop 24 z = pop 8 (z % 256) + pop 16 (z / 256) := q 2
    have a1 : ∀ z, pop 16 z = pop 8 (z % 256) + pop 8 (z / 256) := q 1
    have a0 : ∀ z, pop 8 z = pop 8 (z % 256) := fun z => (pop_mod 8 8 z (by omega)).symm
    rw [a7, a6, a5, a4, a3, a2, a1, a0 (_ / 256)]
  have l := fun z => pop8_le (z % 256) (by omega)
  simp only [bmap, Nat.mul_zero, Nat.add_zero] at e3
  obtain ⟨r1, r2, r3, r4⟩ := sum8 _ _ _ _ _ _ _ _ x3 y1 y2 y3 (l x) (l _) (l _) (l _) (l _) (l _) (l _) (l _) e3 g1 g2 g3
  refine ⟨by rw [e1]; exact Nat.lt_of_lt_of_le b1 (by decide), hx2, Nat.lt_of_le_of_lt (by rw [g1]; exact Nat.le_add_right _ _) r1, r1, r2, r3, ?_⟩
  rw [r4, hpop]
  simp only [Nat.add_assoc]
end Go.Proofs.YtnabikoieolfcaaDoor
