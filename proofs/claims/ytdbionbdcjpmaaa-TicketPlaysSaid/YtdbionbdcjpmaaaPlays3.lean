/- The world of TicketPlays: a lock of a memory, the tickets that it gave, and the document's lock beside it. -/
import Derived.Test.YtdbionbdcjpmaaaRefT
namespace Go.Proofs.Ytdbionbdcjpmaaa.ticketPlays
open Go.RowKit
set_option linter.unusedVariables false
set_option linter.unusedSimpArgs false

/-- The tickets from f on, below t. -/
def tk (z : Int) (f t : Nat) : List Value := (List.range' f (t - f)).map fun j => Value.int .u64 (T z j)
theorem tk_len (z : Int) (f t : Nat) : (tk z f t).length = t - f := by simp [tk]
theorem tk_nil (z : Int) (f : Nat) : tk z f f = [] := by simp [tk]
theorem tk_cons {z : Int} {f t : Nat} (h : f < t) : tk z f t = .int .u64 (T z f) :: tk z (f + 1) t := by
  unfold tk
  rw [show t - f = (t - (f + 1)) + 1 by omega, List.range'_succ, List.map_cons]
theorem tk_snoc {z : Int} {f t : Nat} (h : f ≤ t) : tk z f t ++ [.int .u64 (T z t)] = tk z f (t + 1) := by
  unfold tk
  rw [show t + 1 - f = (t - f) + 1 by omega, List.range'_concat, List.map_append]
  simp; congr 1; omega
theorem tk_get {z : Int} {f t j : Nat} (h : j < t - f) : (tk z f t)[j]? = some (.int .u64 (T z (f + j))) := by
  unfold tk
  simp [List.getElem?_range', h]
theorem tk_one (z : Int) (f t : Nat) : ∀ u ∈ tk z f t, u.oneCell' = true := by
  intro u hu
  unfold tk at hu
  obtain ⟨j, _, rfl⟩ := List.mem_map.1 hu
  rfl
theorem _root_.Go.Proofs.Ytdbionbdcjpmaaa.Offs.at {w : World} {base : Nat} {e : TypeId} {n c : Nat} {xs : List Value} {g off : Nat} (h : Offs w base e (.slice (some ⟨g, off, none⟩) n c) xs) (j : Nat) (u : Value) (hj : xs[j]? = some u) : w.cell? ⟨g, off + j, none⟩ = some u := by
  rcases h with ⟨h0, _⟩ | ⟨g', off', cap, cur, h1, h2, h3, h4, h5, h6, h7⟩
  · cases h0
  · simp only [Value.slice.injEq, Option.some.injEq, Addr.mk.injEq] at h1
    obtain ⟨⟨rfl, rfl, _⟩, _, _⟩ := h1
    have hjl : j < xs.length := (List.getElem?_eq_some_iff.1 hj).1
    simp [World.cell?, h3, h7 j hjl, hj]

theorem _root_.Go.Proofs.Ytdbionbdcjpmaaa.Offs.mono {w : World} {base base' : Nat} {e : TypeId} {v : Value} {xs : List Value} (h : Offs w base e v xs) (hb : base' ≤ base) : Offs w base' e v xs := by
  rcases h with h | ⟨g, off, cap, cur, h1, h2, h3⟩
  · exact .inl h
  · exact .inr ⟨g, off, cap, cur, h1, by omega, h3⟩
structure St (w : World) (N b g : Nat) (ws : List Int) (xs ys : List Value) (nx : Int) (c : Nat) (va vr : Value) (wr : World) : Prop where
  m : Mem wr b g ws c
  a : Offs wr (N + 2) 30 va xs
  r : Offs wr (N + 2) 30 vr ys
  ap : ∀ q, va.ownBlock = some q → vr.ownBlock ≠ some q
  bk : wr.heap[N]? = some (.cells #[.int .i64 4, .int .i64 2] 41 (0, 0))
  bw : wr.heap[N + 1]? = some (.cells #[.int .u64 nx, vr] 45 (0, 0))
  sz : N + 2 ≤ wr.heap.size
  bl : Below w.heap.size w wr
  hb : w.heap.size ≤ b
  hg : w.heap.size ≤ g
  lb : b < N
  lg : g < N
variable {w wr : World} {N b g c : Nat} {ws : List Int} {xs ys : List Value} {nx : Int} {va vr : Value}

/-- A call that turns the memory alone. -/
theorem St.call (h : St w N b g ws xs ys nx c va vr wr) {w' : World} {ws' : List Int} {c' : Nat} (hm : Mem w' b g ws' c') (ho : Only b g wr w') : St w N b g ws' xs ys nx c' va vr w' := by
  have h1 := h.lb
  have h2 := h.lg
  have h3 := h.hb
  have h4 := h.hg
  have h5 := ho.size
  have h6 := h.sz
  refine ⟨hm, h.a.kept (fun q hq => ?_), h.r.kept (fun q hq => ?_), h.ap, ho.keep h.bk (by omega) (by omega), ho.keep h.bw (by omega) (by omega), by omega, h.bl.trans (ho.below (by omega) (by omega) (by have := h.bl.size; omega)), h3, h4, h1, h2⟩
  · have := h.a.lt q hq; exact ho.block q this.2 (by omega) (by omega)
  · have := h.r.lt q hq; exact ho.block q this.2 (by omega) (by omega)
/-- New memory alone. -/
theorem St.below (h : St w N b g ws xs ys nx c va vr wr) {w' : World} (hb : Below wr.heap.size wr w') : St w N b g ws xs ys nx c va vr w' := by
  have h6 := h.sz
  have h5 := hb.size
  exact ⟨h.m.below hb h.m.sb h.m.sg, h.a.kept (fun q hq => hb.block q (h.a.lt q hq).2), h.r.kept (fun q hq => hb.block q (h.r.lt q hq).2), h.ap, (hb.block _ (by omega)).trans h.bk, (hb.block _ (by omega)).trans h.bw, by omega, h.bl.trans (hb.mono h.bl.size), h.hb, h.hg, h.lb, h.lg⟩
theorem St.drew (h : St w N b g ws xs ys nx c va vr wr) : St w N b g ws xs ys nx c va vr wr.drew := h.below (Quiet.below ⟨1, rfl⟩ _)
theorem St.alloc (h : St w N b g ws xs ys nx c va vr wr) (o : Obj) : St w N b g ws xs ys nx c va vr (wr.alloc o) := h.below ((Below.refl _ _).alloc (Nat.le_refl _) o)
/-- The document's lock is laid anew. -/
theorem St.setw (h : St w N b g ws xs ys nx c va vr wr) (nx' : Int) (v' : Value) (ys' : List Value) (hr : Offs wr (N + 2) 30 v' ys') (hap : ∀ q, va.ownBlock = some q → v'.ownBlock ≠ some q) :
    St w N b g ws xs ys' nx' c va v' ((wr.setCell ⟨N + 1, 0, none⟩ (.int .u64 nx')).setCell ⟨N + 1, 1, none⟩ v') := by
  have k : ∀ k, k ≠ N + 1 → ((wr.setCell ⟨N + 1, 0, none⟩ (.int .u64 nx')).setCell ⟨N + 1, 1, none⟩ v').heap[k]? = wr.heap[k]? := fun k hk => by
    rw [Below.heap_setCell _ _ _ _ hk, Below.heap_setCell _ _ _ _ hk]
  have h1 := h.lb
  have h2 := h.lg
  have h3 := h.hb
  have h4 := h.hg
  have h6 := h.sz
  exact ⟨h.m.kept (k _ (by omega)) (k _ (by omega)), h.a.kept (fun q hq => k q (by have := h.a.lt q hq; omega)), hr.kept (fun q hq => k q (by have := hr.lt q hq; omega)), hap, (k _ (by omega)).trans h.bk,
    by simp [World.setCell, Array.getElem?_modify, h.bw], by simpa [World.setCell] using h6, (h.bl.setCell (by show w.heap.size ≤ N + 1; omega) _).setCell (by show w.heap.size ≤ N + 1; omega) _, h3, h4, h1, h2⟩
theorem St.appa (h : St w N b g ws xs ys nx c va vr wr) {w' : World} {v' : Value} {u : Value} (hx : Offs w' (N + 2) 30 v' (xs ++ [u])) (hg : wr.grownBy w' va.ownBlock)
    (hat : v'.ownBlock = va.ownBlock ∨ v'.ownBlock = some wr.heap.size) : St w N b g ws (xs ++ [u]) ys nx c v' vr w' := by
  have h1 := h.lb
  have h2 := h.lg
  have h5 := hg.size
  have h6 := h.sz
  have hlx := h.a.lt
  have hly := h.r.lt
  refine ⟨mem_grown h.m hg (fun q hq => by have := hlx q hq; omega), hx, h.r.grown hg (fun q hq e => h.ap q e hq), fun q hq e => ?_, (hg.block _ (by omega) (fun e => by have := hlx _ e.symm; omega)).trans h.bk, (hg.block _ (by omega) (fun e => by have := hlx _ e.symm; omega)).trans h.bw, by omega,
    h.bl.grown hg (by have := h.bl.size; omega) (fun q hq => by have := hlx q hq; have := h.hb; omega), h.hb, h.hg, h1, h2⟩
  rcases hat with ha | ha
  · exact h.ap q (ha.symm.trans hq) e
  · rw [ha] at hq; cases hq; have := hly _ e; omega
/-- The cells that the walk reads. -/
theorem St.l (h : St w N b g ws xs ys nx c va vr wr) : (wr.cell? ⟨N, 0, none⟩ = some (.int .i64 4) ∧ wr.cell? ⟨N, 1, none⟩ = some (.int .i64 2) ∧ wr.cell? ⟨N + 1, 0, none⟩ = some (.int .u64 nx) ∧ wr.cell? ⟨N + 1, 1, none⟩ = some vr) ∧
    wr.frozen? ⟨N + 1, 0, none⟩ = false ∧ wr.frozen? ⟨N + 1, 1, none⟩ = false :=
  ⟨⟨cell_of_blk h.bk rfl, cell_of_blk h.bk rfl, cell_of_blk h.bw rfl, cell_of_blk h.bw rfl⟩, by simp [World.frozen?, h.bw], by simp [World.frozen?, h.bw]⟩

/-! The lock's methods. -/
variable {z : Int} {f n : Nat}
theorem takeK (h : St w N b g [0, 0, T z f, 0, T z n, 0] xs ys nx c va vr wr) (hc : c ≤ 900000000) :
    Calls Try.prog 17 #[.agg #[.int .i64 4, .int .i64 2], .pointer (some ⟨b, 0, none⟩)] wr fun e w' => e = .returned (.int .u64 (T z n)) ∧ St w N b g [0, 0, T z f, 0, T z (n + 1), 0] xs ys nx (c + 1) va vr w' := by
  refine (take_in b g _ c 4 2 wr h.m (by omega) (by omega) (by simp) (T z n) (by simp) (T_inU _ _)).mono ?_
  rintro e w' ⟨rfl, hm, ho⟩
  rw [T_succ] at hm
  exact ⟨rfl, h.call hm ho⟩
theorem heldK (h : St w N b g [0, 0, T z f, 0, T z n, 0] xs ys nx c va vr wr) (hc : c ≤ 900000000) (j : Nat) (r : Bool) (hr : decide (j = f) = r) (hj : j ≤ 999999) (hf : f ≤ 999999) :
    Calls Try.prog 19 #[.agg #[.int .i64 4, .int .i64 2], .pointer (some ⟨b, 0, none⟩), .int .u64 (T z j)] wr fun e w' => e = .returned (.bool r) ∧ St w N b g [0, 0, T z f, 0, T z n, 0] xs ys nx (c + 1) va vr w' := by
  have hr' : decide (T z j = T z f) = r := by
    rw [← hr, Bool.eq_iff_iff, decide_eq_true_iff, decide_eq_true_iff]
    constructor
    · intro e
      rcases Nat.lt_trichotomy j f with h | h | h
      · exact absurd e.symm (T_ne z j f h (by omega))
      · exact h
      · exact absurd e (T_ne z f j h (by omega))
    · rintro rfl; rfl
  refine (held_in b g _ c 4 2 (T z j) wr h.m (by omega) (by omega) (by simp) (T z f) (by simp) r hr' (T_inU _ _) (T_inU _ _)).mono ?_
  rintro e w' ⟨rfl, hm, ho⟩
  exact ⟨rfl, h.call hm ho⟩
theorem aheadK (h : St w N b g [0, 0, T z f, 0, T z n, 0] xs ys nx c va vr wr) (hc : c ≤ 900000000) (j : Nat) (hj : f + j ≤ 999999) :
    Calls Try.prog 22 #[.agg #[.int .i64 4, .int .i64 2], .pointer (some ⟨b, 0, none⟩), .int .u64 (T z (f + j))] wr fun e w' => e = .returned (.int .u64 j) ∧ St w N b g [0, 0, T z f, 0, T z n, 0] xs ys nx (c + 1) va vr w' := by
  refine (ahead_in b g _ c 4 2 (T z (f + j)) wr h.m (by omega) (by omega) (by simp) (T z f) (by simp)).mono ?_
  rintro e w' ⟨rfl, hm, ho⟩
  rw [T_sub z f (f + j) (by omega) (by omega)]
  exact ⟨by congr 3; omega, h.call hm ho⟩
theorem freeK (h : St w N b g [0, 0, T z f, 0, T z n, 0] xs ys nx c va vr wr) (hc : c ≤ 900000000) :
    Calls Try.prog 21 #[.agg #[.int .i64 4, .int .i64 2], .pointer (some ⟨b, 0, none⟩), .int .u64 (T z f)] wr fun e w' => e = .returned (.bool true) ∧ St w N b g [0, 0, T z (f + 1), 0, T z n, 0] xs ys nx (c + 2) va vr w' := by
  refine (free_yes b g _ c 4 2 (T z f) wr h.m (by omega) (by omega) (by simp) (by simp) (T_inU _ _)).mono ?_
  rintro e w' ⟨rfl, hm, ho⟩
  rw [T_succ] at hm
  exact ⟨rfl, h.call hm ho⟩
theorem freeN (h : St w N b g [0, 0, T z f, 0, T z n, 0] xs ys nx c va vr wr) (hc : c ≤ 900000000) (j : Nat) (hne : j ≠ f) (hj : j ≤ 999999) (hf : f ≤ 999999) :
    Calls Try.prog 21 #[.agg #[.int .i64 4, .int .i64 2], .pointer (some ⟨b, 0, none⟩), .int .u64 (T z j)] wr fun e w' => e = .returned (.bool false) ∧ St w N b g [0, 0, T z f, 0, T z n, 0] xs ys nx (c + 1) va vr w' := by
  have hne' : T z j ≠ T z f := by
    rcases Nat.lt_or_gt_of_ne hne with h | h
    · exact (T_ne z j f h (by omega)).symm
    · exact T_ne z f j h (by omega)
  refine (free_no b g _ c 4 2 (T z j) wr h.m (by omega) (by omega) (by simp) (T z f) (by simp) hne' (T_inU _ _) (T_inU _ _)).mono ?_
  rintro e w' ⟨rfl, hm, ho⟩
  exact ⟨rfl, h.call hm ho⟩
theorem busyK (h : St w N b g [0, 0, T z f, 0, T z n, 0] xs ys nx c va vr wr) (hc : c ≤ 900000000) (hf : f ≤ n) (hn : n ≤ 999999) (r : Bool) (hr : decide (0 < n - f) = r) :
    Calls Try.prog 23 #[.agg #[.int .i64 4, .int .i64 2], .pointer (some ⟨b, 0, none⟩)] wr fun e w' => e = .returned (.bool r) ∧ St w N b g [0, 0, T z f, 0, T z n, 0] xs ys nx (c + 2) va vr w' := by
  have hr' : (T z n != T z f) = r := by
    rw [← hr, Bool.eq_iff_iff, bne_iff_ne, decide_eq_true_iff]
    constructor
    · intro e
      rcases Nat.lt_or_ge f n with h | h
      · omega
      · exact absurd (by rw [show n = f by omega]) e
    · intro h; exact T_ne z f n (by omega) (by omega)
  refine (busy_in b g _ c 4 2 wr h.m (by omega) (by omega) (by simp) (by omega) (by simp) (T z f) (T z n) (by simp) (by simp) r hr').mono ?_
  rintro e w' ⟨rfl, hm, ho⟩
  exact ⟨rfl, h.call hm ho⟩
theorem loadK (h : St w N b g [0, 0, T z f, 0, T z n, 0] xs ys nx c va vr wr) (hc : c ≤ 900000000) (i : Int) (hi : i = 0 ∨ i = 1 ∨ i = 3 ∨ i = 5) :
    Calls Try.prog 13 #[.pointer (some ⟨b, 0, none⟩), .int .i64 i] wr fun e w' => e = .returned (.int .u64 0) ∧ St w N b g [0, 0, T z f, 0, T z n, 0] xs ys nx (c + 1) va vr w' := by
  have e : ([0, 0, T z f, 0, T z n, 0] : List Int).getD i.toNat 0 = 0 := by rcases hi with rfl | rfl | rfl | rfl <;> rfl
  refine (load_in b g _ c i wr h.m (by omega) (by omega) (by simp; omega)).mono ?_
  rintro e' w' ⟨rfl, hm, ho⟩
  rw [e]
  exact ⟨rfl, h.call hm ho⟩
end Go.Proofs.Ytdbionbdcjpmaaa.ticketPlays
