/- The world of TicketApart: two locks of one memory, and the tickets that each has given. -/
import Derived.Test.YtdbionbdcjpmaaaRows64A
import Derived.Test.YtdbionbdcjpmaaaOff
namespace Go.Proofs.Ytdbionbdcjpmaaa.ticketApart
open Go.RowKit
set_option linter.unusedVariables false
set_option linter.unusedSimpArgs false

/-- The tickets from f on, below t. -/
def tk (f t : Nat) : List Value := (List.range' f (t - f)).map fun j => Value.int .u64 (j : Nat)
theorem tk_len (f t : Nat) : (tk f t).length = t - f := by simp [tk]
theorem tk_nil (f : Nat) : tk f f = [] := by simp [tk]
theorem tk_cons {f t : Nat} (h : f < t) : tk f t = .int .u64 (f : Nat) :: tk (f + 1) t := by
  unfold tk
  rw [show t - f = (t - (f + 1)) + 1 by omega, List.range'_succ, List.map_cons]
theorem tk_snoc {f t : Nat} (h : f ≤ t) : tk f t ++ [.int .u64 (t : Nat)] = tk f (t + 1) := by
  unfold tk
  rw [show t + 1 - f = (t - f) + 1 by omega, List.range'_concat, List.map_append]
  simp; omega

structure St (w : World) (B b g : Nat) (ws : List Int) (xs ys : List Value) (c : Nat) (vx vy : Value) (wr : World) : Prop where
  m : Mem wr b g ws c
  x : Offs wr (B + 2) 30 vx xs
  y : Offs wr (B + 2) 30 vy ys
  ap : ∀ q, vx.ownBlock = some q → vy.ownBlock ≠ some q
  ba : wr.heap[B]? = some (.cells #[.int .i64 0, .int .i64 1] 41 (0, 0))
  bb : wr.heap[B + 1]? = some (.cells #[.int .i64 3, .int .i64 2] 41 (0, 0))
  sz : B + 2 ≤ wr.heap.size
  bl : Below w.heap.size w wr
  hb : w.heap.size ≤ b
  hg : w.heap.size ≤ g
  lb : b < B
  lg : g < B

variable {w wr : World} {B b g c : Nat} {ws : List Int} {xs ys : List Value} {vx vy : Value}

theorem St.call (h : St w B b g ws xs ys c vx vy wr) {w' : World} {ws' : List Int} {c' : Nat} (hm : Mem w' b g ws' c') (ho : Only b g wr w') : St w B b g ws' xs ys c' vx vy w' := by
  have h1 := h.lb
  have h2 := h.lg
  have h3 := h.hb
  have h4 := h.hg
  have h5 := ho.size
  have h6 := h.sz
  refine ⟨hm, h.x.kept (fun q hq => ?_), h.y.kept (fun q hq => ?_), h.ap, ho.keep h.ba (by omega) (by omega), ho.keep h.bb (by omega) (by omega), by omega, h.bl.trans (ho.below (by omega) (by omega) (by have := h.bl.size; omega)), h3, h4, h1, h2⟩
  · have := h.x.lt q hq; exact ho.block q this.2 (by omega) (by omega)
  · have := h.y.lt q hq; exact ho.block q this.2 (by omega) (by omega)
theorem St.drew (h : St w B b g ws xs ys c vx vy wr) : St w B b g ws xs ys c vx vy wr.drew := h.call h.m.drew (Only.of_quiet ⟨1, rfl⟩)
theorem St.alloc (h : St w B b g ws xs ys c vx vy wr) (o : Obj) : St w B b g ws xs ys c vx vy (wr.alloc o) := h.call (h.m.alloc o) (Only.alloc _ _)

theorem St.appx (h : St w B b g ws xs ys c vx vy wr) {w' : World} {v' : Value} {u : Value} (hx : Offs w' (B + 2) 30 v' (xs ++ [u])) (hg : wr.grownBy w' vx.ownBlock)
    (hat : v'.ownBlock = vx.ownBlock ∨ v'.ownBlock = some wr.heap.size) : St w B b g ws (xs ++ [u]) ys c v' vy w' := by
  have h1 := h.lb
  have h2 := h.lg
  have h5 := hg.size
  have h6 := h.sz
  have hlx := h.x.lt
  have hly := h.y.lt
  refine ⟨mem_grown h.m hg (fun q hq => by have := hlx q hq; omega), hx, h.y.grown hg (fun q hq e => h.ap q e hq), fun q hq e => ?_, (hg.block _ (by omega) (fun e => by have := hlx _ e.symm; omega)).trans h.ba, (hg.block _ (by omega) (fun e => by have := hlx _ e.symm; omega)).trans h.bb, by omega,
    h.bl.grown hg (by have := h.bl.size; omega) (fun q hq => by have := hlx q hq; have := h.hb; omega), h.hb, h.hg, h1, h2⟩
  rcases hat with ha | ha
  · exact h.ap q (ha.symm.trans hq) e
  · rw [ha] at hq; cases hq; have := hly _ e; omega
theorem St.appy (h : St w B b g ws xs ys c vx vy wr) {w' : World} {v' : Value} {u : Value} (hx : Offs w' (B + 2) 30 v' (ys ++ [u])) (hg : wr.grownBy w' vy.ownBlock)
    (hat : v'.ownBlock = vy.ownBlock ∨ v'.ownBlock = some wr.heap.size) : St w B b g ws xs (ys ++ [u]) c vx v' w' := by
  have h1 := h.lb
  have h2 := h.lg
  have h5 := hg.size
  have h6 := h.sz
  have hlx := h.x.lt
  have hly := h.y.lt
  refine ⟨mem_grown h.m hg (fun q hq => by have := hly q hq; omega), h.x.grown hg (fun q hq e => h.ap q hq e), hx, fun q hq e => ?_, (hg.block _ (by omega) (fun e => by have := hly _ e.symm; omega)).trans h.ba, (hg.block _ (by omega) (fun e => by have := hly _ e.symm; omega)).trans h.bb, by omega,
    h.bl.grown hg (by have := h.bl.size; omega) (fun q hq => by have := hly q hq; have := h.hb; omega), h.hb, h.hg, h1, h2⟩
  rcases hat with ha | ha
  · exact h.ap q hq (ha.symm.trans e)
  · rw [ha] at e; cases e; have := hlx _ hq; omega

/-- Where the first one lies. -/
theorem St.openx {u : Value} {us : List Value} {a : Option Addr} {n cap : Nat} (h : St w B b g ws (u :: us) ys c (.slice a n cap) vy wr) :
    ∃ gx ox, a = some ⟨gx, ox, none⟩ ∧ n = us.length + 1 ∧ n ≤ cap ∧ cap ≤ maxLen := by
  obtain ⟨gx, ox, h1, h2, h3, h4, _⟩ := h.x.pos
  exact ⟨gx, ox, h1, h2, h3, h4⟩
theorem St.openy {u : Value} {us : List Value} {a : Option Addr} {n cap : Nat} (h : St w B b g ws xs (u :: us) c vx (.slice a n cap) wr) :
    ∃ gx ox, a = some ⟨gx, ox, none⟩ ∧ n = us.length + 1 ∧ n ≤ cap ∧ cap ≤ maxLen := by
  obtain ⟨gx, ox, h1, h2, h3, h4, _⟩ := h.y.pos
  exact ⟨gx, ox, h1, h2, h3, h4⟩
theorem St.cx {u : Value} {us : List Value} {gx ox n cap : Nat} (h : St w B b g ws (u :: us) ys c (.slice (some ⟨gx, ox, none⟩) n cap) vy wr) : wr.cell? ⟨gx, ox, none⟩ = some u := by
  obtain ⟨gx', ox', h1, h2, h3, h4, h5, _⟩ := h.x.pos
  simp only [Option.some.injEq, Addr.mk.injEq, and_true] at h1
  obtain ⟨rfl, rfl⟩ := h1
  exact h5
theorem St.cy {u : Value} {us : List Value} {gx ox n cap : Nat} (h : St w B b g ws xs (u :: us) c vx (.slice (some ⟨gx, ox, none⟩) n cap) wr) : wr.cell? ⟨gx, ox, none⟩ = some u := by
  obtain ⟨gx', ox', h1, h2, h3, h4, h5, _⟩ := h.y.pos
  simp only [Option.some.injEq, Addr.mk.injEq, and_true] at h1
  obtain ⟨rfl, rfl⟩ := h1
  exact h5
/-- The first one goes. -/
theorem St.tailx {u : Value} {us : List Value} {gx ox n cap : Nat} (h : St w B b g ws (u :: us) ys c (.slice (some ⟨gx, ox, none⟩) n cap) vy wr) (o' n' c' : Nat)
    (ho : (cap = 1 ∧ o' = ox ∧ n' = us.length ∧ c' = 0) ∨ (o' = ox + 1 ∧ n' = us.length ∧ c' = cap - 1)) : St w B b g ws us ys c (.slice (some ⟨gx, o', none⟩) n' c') vy wr := by
  obtain ⟨gx', ox', h1, h2, h3, h4, h5, _, _, h6, h7⟩ := h.x.pos
  simp only [Option.some.injEq, Addr.mk.injEq, and_true] at h1
  obtain ⟨rfl, rfl⟩ := h1
  refine ⟨h.m, ?_, h.y, fun q hq => h.ap q hq, h.ba, h.bb, h.sz, h.bl, h.hb, h.hg, h.lb, h.lg⟩
  rcases ho with ⟨e1, rfl, rfl, rfl⟩ | ⟨rfl, rfl, rfl⟩
  · exact h6 e1
  · exact h7
theorem St.taily {u : Value} {us : List Value} {gx ox n cap : Nat} (h : St w B b g ws xs (u :: us) c vx (.slice (some ⟨gx, ox, none⟩) n cap) wr) (o' n' c' : Nat)
    (ho : (cap = 1 ∧ o' = ox ∧ n' = us.length ∧ c' = 0) ∨ (o' = ox + 1 ∧ n' = us.length ∧ c' = cap - 1)) : St w B b g ws xs us c vx (.slice (some ⟨gx, o', none⟩) n' c') wr := by
  obtain ⟨gx', ox', h1, h2, h3, h4, h5, _, _, h6, h7⟩ := h.y.pos
  simp only [Option.some.injEq, Addr.mk.injEq, and_true] at h1
  obtain ⟨rfl, rfl⟩ := h1
  refine ⟨h.m, h.x, ?_, fun q hq => h.ap q hq, h.ba, h.bb, h.sz, h.bl, h.hb, h.hg, h.lb, h.lg⟩
  rcases ho with ⟨e1, rfl, rfl, rfl⟩ | ⟨rfl, rfl, rfl⟩
  · exact h6 e1
  · exact h7

/-- The two locks' cells. -/
def Lk (B : Nat) (w : World) : Prop := w.cell? ⟨B, 0, none⟩ = some (.int .i64 0) ∧ w.cell? ⟨B, 1, none⟩ = some (.int .i64 1) ∧ w.cell? ⟨B + 1, 0, none⟩ = some (.int .i64 3) ∧ w.cell? ⟨B + 1, 1, none⟩ = some (.int .i64 2)
theorem St.lk (h : St w B b g ws xs ys c vx vy wr) : Lk B wr := ⟨cell_of_blk h.ba rfl, cell_of_blk h.ba rfl, cell_of_blk h.bb rfl, cell_of_blk h.bb rfl⟩

variable {ta fa fb tb : Nat}
theorem inN {n : Nat} (h : n ≤ 1000000) : inU (n : Int) := by unfold inU; omega
theorem U_n {n : Nat} (h : n ≤ 1000000) : U ((n : Int) + 1) = ((n + 1 : Nat) : Int) := by rw [U_of (by unfold inU; omega)]; omega
theorem takeA (h : St w B b g [(ta : Int), fa, fb, tb] xs ys c vx vy wr) (hc : c ≤ 900000000) (ht : ta ≤ 999999) :
    Calls Try.prog 17 #[.agg #[.int .i64 0, .int .i64 1], .pointer (some ⟨b, 0, none⟩)] wr fun e w' => e = .returned (.int .u64 ta) ∧ St w B b g [((ta + 1 : Nat) : Int), fa, fb, tb] xs ys (c + 1) vx vy w' := by
  refine (take_in b g _ c 0 1 wr h.m (by omega) (by omega) (by simp) (ta : Int) (by simp) (inN (by omega))).mono ?_
  rintro e w' ⟨rfl, hm, ho⟩
  rw [U_n (by omega)] at hm
  exact ⟨rfl, h.call hm ho⟩
theorem takeB (h : St w B b g [(ta : Int), fa, fb, tb] xs ys c vx vy wr) (hc : c ≤ 900000000) (ht : tb ≤ 999999) :
    Calls Try.prog 17 #[.agg #[.int .i64 3, .int .i64 2], .pointer (some ⟨b, 0, none⟩)] wr fun e w' => e = .returned (.int .u64 tb) ∧ St w B b g [(ta : Int), fa, fb, ((tb + 1 : Nat) : Int)] xs ys (c + 1) vx vy w' := by
  refine (take_in b g _ c 3 2 wr h.m (by omega) (by omega) (by simp) (tb : Int) (by simp) (inN (by omega))).mono ?_
  rintro e w' ⟨rfl, hm, ho⟩
  rw [U_n (by omega)] at hm
  exact ⟨rfl, h.call hm ho⟩
theorem freeA (h : St w B b g [(ta : Int), fa, fb, tb] xs ys c vx vy wr) (hc : c ≤ 900000000) (ht : fa ≤ 999999) :
    Calls Try.prog 21 #[.agg #[.int .i64 0, .int .i64 1], .pointer (some ⟨b, 0, none⟩), .int .u64 fa] wr fun e w' => e = .returned (.bool true) ∧ St w B b g [(ta : Int), ((fa + 1 : Nat) : Int), fb, tb] xs ys (c + 2) vx vy w' := by
  refine (free_yes b g _ c 0 1 (fa : Int) wr h.m (by omega) (by omega) (by simp) (by simp) (inN (by omega))).mono ?_
  rintro e w' ⟨rfl, hm, ho⟩
  rw [U_n (by omega)] at hm
  exact ⟨rfl, h.call hm ho⟩
theorem freeB (h : St w B b g [(ta : Int), fa, fb, tb] xs ys c vx vy wr) (hc : c ≤ 900000000) (ht : fb ≤ 999999) :
    Calls Try.prog 21 #[.agg #[.int .i64 3, .int .i64 2], .pointer (some ⟨b, 0, none⟩), .int .u64 fb] wr fun e w' => e = .returned (.bool true) ∧ St w B b g [(ta : Int), fa, ((fb + 1 : Nat) : Int), tb] xs ys (c + 2) vx vy w' := by
  refine (free_yes b g _ c 3 2 (fb : Int) wr h.m (by omega) (by omega) (by simp) (by simp) (inN (by omega))).mono ?_
  rintro e w' ⟨rfl, hm, ho⟩
  rw [U_n (by omega)] at hm
  exact ⟨rfl, h.call hm ho⟩
theorem busyA (h : St w B b g [(ta : Int), fa, fb, tb] xs ys c vx vy wr) (hc : c ≤ 900000000) (r : Bool) (hr : ((ta : Int) != fa) = r) :
    Calls Try.prog 23 #[.agg #[.int .i64 0, .int .i64 1], .pointer (some ⟨b, 0, none⟩)] wr fun e w' => e = .returned (.bool r) ∧ St w B b g [(ta : Int), fa, fb, tb] xs ys (c + 2) vx vy w' := by
  refine (busy_in b g _ c 0 1 wr h.m (by omega) (by omega) (by simp) (by omega) (by simp) (fa : Int) (ta : Int) (by simp) (by simp) r hr).mono ?_
  rintro e w' ⟨rfl, hm, ho⟩
  exact ⟨rfl, h.call hm ho⟩
theorem busyB (h : St w B b g [(ta : Int), fa, fb, tb] xs ys c vx vy wr) (hc : c ≤ 900000000) (r : Bool) (hr : ((tb : Int) != fb) = r) :
    Calls Try.prog 23 #[.agg #[.int .i64 3, .int .i64 2], .pointer (some ⟨b, 0, none⟩)] wr fun e w' => e = .returned (.bool r) ∧ St w B b g [(ta : Int), fa, fb, tb] xs ys (c + 2) vx vy w' := by
  refine (busy_in b g _ c 3 2 wr h.m (by omega) (by omega) (by simp) (by omega) (by simp) (fb : Int) (tb : Int) (by simp) (by simp) r hr).mono ?_
  rintro e w' ⟨rfl, hm, ho⟩
  exact ⟨rfl, h.call hm ho⟩
theorem heldA (h : St w B b g [(ta : Int), fa, fb, tb] xs ys c vx vy wr) (hc : c ≤ 900000000) (ht : fa ≤ 999999) :
    Calls Try.prog 19 #[.agg #[.int .i64 0, .int .i64 1], .pointer (some ⟨b, 0, none⟩), .int .u64 fa] wr fun e w' => e = .returned (.bool true) ∧ St w B b g [(ta : Int), fa, fb, tb] xs ys (c + 1) vx vy w' := by
  refine (held_in b g _ c 0 1 (fa : Int) wr h.m (by omega) (by omega) (by simp) (fa : Int) (by simp) true (by simp) (inN (by omega)) (inN (by omega))).mono ?_
  rintro e w' ⟨rfl, hm, ho⟩
  exact ⟨rfl, h.call hm ho⟩
theorem heldB (h : St w B b g [(ta : Int), fa, fb, tb] xs ys c vx vy wr) (hc : c ≤ 900000000) (ht : fb ≤ 999999) :
    Calls Try.prog 19 #[.agg #[.int .i64 3, .int .i64 2], .pointer (some ⟨b, 0, none⟩), .int .u64 fb] wr fun e w' => e = .returned (.bool true) ∧ St w B b g [(ta : Int), fa, fb, tb] xs ys (c + 1) vx vy w' := by
  refine (held_in b g _ c 3 2 (fb : Int) wr h.m (by omega) (by omega) (by simp) (fb : Int) (by simp) true (by simp) (inN (by omega)) (inN (by omega))).mono ?_
  rintro e w' ⟨rfl, hm, ho⟩
  exact ⟨rfl, h.call hm ho⟩
end Go.Proofs.Ytdbionbdcjpmaaa.ticketApart
