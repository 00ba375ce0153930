/- The contract of Batch.Front: what is put ahead comes first, whatever room there is. -/
import Derived.Test.YtpmggkngakdkhaaBatch3
import Derived.Laws.CopyOwn
import Derived.Laws.MakeOwn
import Derived.Laws.OwnMore
namespace Go.Proofs.Ytpmggkngakdkhaa
set_option linter.unusedVariables false
set_option linter.unusedSimpArgs false
open Go.RowKit

theorem wpList_append_reads {P : Program} {w : World} {ops : Array Oper} {rest : List Oper} {o : Oper} {a : Act} {Q : Exit → Act → World → Prop} (hgd : o.guard = none) (s x : Operand) (t : TypeId)
    (ho : o.op = .call { callee := .builtin .append, args := #[s, x], argTypes := #[t, t] })
    (base : Nat) (e : TypeId) (i : TypeInfo) (z : Value) (bytes : Nat) (ht : P.underlying t = some (.slice e)) (hi : P.info? e = some i) (hz : i.zero = some z)
    (hsize : i.size = 1) (hby : i.bytes = bytes) (hzs : z.cells.size = 1)
    (v : Value) (n : Nat) (xs : List Value) (hs : a.eval s = v) (hown : w.ownsRow base e 1 v n xs)
    (ys : List Int) (vy : Value) (hx : a.eval x = vy) (hr : Reads w vy ys)
    (h63 : n + ys.length ≤ maxLen) (hbytes : (n + ys.length) * bytes ≤ 140737488355328) (hbase : base ≤ w.heap.size)
    (h : ∀ v' w', w'.ownsRow base e 1 v' (n + ys.length) (xs ++ ys.map (Value.int .i64)) → w.grownBy w' v.ownBlock → (v'.ownBlock = v.ownBlock ∨ v'.ownBlock = some w.heap.size) → wpList P ops Q rest (a.put o.dst v') w') :
    wpList P ops Q (o :: rest) a w := by
  obtain ⟨ad, c, rfl, hc, hrd⟩ := hr
  rcases hc.2.2 with ⟨rfl, rfl⟩ | ⟨ad', rfl⟩
  · have hy0 : ys = [] := List.length_eq_zero_iff.1 (by omega)
    subst hy0
    exact wpList_append_own_none hgd s x t ho base e i 1 ht hi v n xs hs hown hx (h v w (by simpa using hown) (.refl _ _) (.inl rfl))
  · refine wpList_append_own_at w hgd s x t ho base e i z 1 bytes ht hi hz hsize hby hzs (by decide) v n xs hs hown ad' ys.length c (ys.map (Value.int .i64)) hx (by simp) ?_ (ones_of ys) h63 hbytes hbase (fun v' w' h1 h2 _ h3 => h v' w' h1 h2 h3)
    intro j u hj
    have hpos : 0 < ys.length := by
      rcases Nat.eq_zero_or_pos ys.length with h | h
      · rw [List.length_eq_zero_iff] at h; subst h; simp at hj
      · exact h
    obtain ⟨g', off', h2, h3, h4⟩ := hrd hpos
    simp only [Option.some.injEq] at h2
    subst h2
    exact news_of h4 j u hj

theorem wpList_make_lc {P : Program} (w : World) {ops : Array Oper} {rest : List Oper} {o : Oper} {a : Act} {Q : Exit → Act → World → Prop}
    (hg : o.guard = none) (l c : Operand) (t : TypeId) (hop : o.op = Op.makeSlice t l c)
    (e : TypeId) (i : TypeInfo) (z : Value) (ht : P.underlying t = some (.slice e)) (hi : P.info? e = some i) (hz : i.zero = some z) (hsize : i.size = 1)
    (kl kc : IntKind) (L C : Int) (n m : Nat) (hl : a.eval l = .int kl L) (hc : a.eval c = .int kc C) (hL : L = n) (hC : C = m) (hnm : n ≤ m) (hbytes : (i.bytes : Int) * m ≤ 281474976710656) (h63 : (m : Int) ≤ 9223372036854775807)
    (hK : wpList P ops Q rest (a.put o.dst (.slice (some ⟨w.heap.size, 0, none⟩) n m)) (w.alloc (.cells (madeCells z.cells m) e))) :
    wpList P ops Q (o :: rest) a w := by
  subst hL
  subst hC
  refine wpList_plain hg fun K hK' => ?_
  have hrun := run_make (P := P) w t e i z ht hi hz kl kc n m (by omega) (by omega) hbytes h63
  simp only [Int.toNat_natCast, hsize, Nat.mul_one] at hrun
  unfold Oper.wp
  simp [execOp, hop, hl, hc, hrun, Result.andThen]
  exact hK' _ _ hK

theorem owns_made (w : World) (base n m : Nat) (hb : base ≤ w.heap.size) (hnm : n ≤ m) (hm : m ≤ maxLen) :
    Owns (w.alloc (.cells (madeCells (Value.cells (.int .i64 0)) m) 3)) base (.slice (some ⟨w.heap.size, 0, none⟩) n m) (List.replicate n 0) := by
  have e : (madeCells (Value.cells (.int .i64 0)) m).toList = List.replicate m (.int .i64 0) := toList_madeCells_one _ _
  refine ⟨by simp, .inr ⟨w.heap.size, m, _, by simp, hb, Deep.blk_alloc_new _ _, by simpa using hnm, hm, by rw [size_madeCells, Nat.mul_one], ?_⟩⟩
  rw [e]
  simp [List.take_replicate, Nat.min_eq_left hnm]

/-- 'row' tells the place of the first number. -/
def AtPost (g off n : Nat) (w : World) (e : Ending) (w' : World) : Prop := ∃ c, e = .returned (.slice (some ⟨g, off, none⟩) n c) ∧ n ≤ c ∧ Quiet w w'
set_option maxHeartbeats 1000000 in
theorem row_at (p g : Nat) (pre xs : List Int) (w : World) (hb : Bat0 w p (some g) pre xs) (hx : 0 < xs.length) :
    Calls Try.prog 52 #[.pointer (some ⟨p, 0, none⟩)] w (AtPost g pre.length xs.length w) := by
  obtain ⟨v, hp, ho, hr⟩ := hb.h
  have hlen := hb.len
  have k0 : w.cell? ⟨p, 0, none⟩ = some v := by simp [World.cell?, hp]
  have k1 : w.cell? ⟨p, 1, none⟩ = some (.int .i64 pre.length) := by simp [World.cell?, hp]
  obtain ⟨h0, ⟨h1, h2⟩ | ⟨g', cap, cur, h1, h2, h3, h4, h5, h6, h7⟩⟩ := ho
  · rw [List.length_append] at h2; omega
  · simp only [List.length_append] at h1 h4
    subst h1
    simp only [Value.ownBlock, Option.some.injEq] at hr
    subst hr
    have hcm := h5
    unfold maxLen at hcm
    have hq0 : pre.length < cap := by omega
    have hcap' : xs.length ≤ cap - pre.length := by omega
    clear h0 h3 h6 h7 hb hp
    go_enter Try.func52, Try.ntmps52
    go_wp2_with fail
    go_quiet (fail)
    all_goals
      go_wp2
      go_ret
      exact ⟨cap - pre.length, rfl, hcap', ⟨_, rfl⟩⟩

theorem Bat0.head {w : World} {p : Nat} {r : Option Nat} {pre xs pre' xs' : List Int} (h : Bat0 w p r pre xs) (he : pre ++ xs = pre' ++ xs') (hl : xs'.length ≤ 1000000) (k : Int) (hk : k = pre'.length) :
    Bat0 (w.setCell ⟨p, 1, none⟩ (.int .i64 k)) p r pre' xs' := by
  obtain ⟨v, hp, ho, hr⟩ := h.h
  subst hk
  refine ⟨⟨v, ?_, ?_, hr⟩, h.ne, hl⟩
  · simp [World.setCell, Array.getElem?_modify, hp]
  · rw [← he]
    exact ho.kept (fun k hk => Below.heap_setCell _ _ _ _ (fun e => h.ne (by rw [← hr, hk, e])))
theorem OnlyO.set {p : Nat} {r : Option Nat} (w : World) (i : Nat) (v : Value) : OnlyO p r w (w.setCell ⟨p, i, none⟩ v) := ⟨rfl, rfl, rfl, by simp [World.setCell], fun k _ h1 _ => Below.heap_setCell _ _ _ _ h1⟩
theorem OnlyO.row {p g : Nat} (w : World) (cs : Array Value) : OnlyO p (some g) w (w.setRow g cs) := ⟨rfl, rfl, rfl, by simp [World.setRow], fun k _ _ h2 => setRow_other w g k cs (fun e => h2 (by rw [e]))⟩

/-- The cells of a batch's own block. -/
theorem Bat0.cells {w : World} {p g : Nat} {pre xs : List Int} (h : Bat0 w p (some g) pre xs) : ∃ cur : Array Value, w.heap[g]? = some (.cells cur 3 (0, 0)) ∧ pre.length + xs.length ≤ cur.size ∧
    ∀ mid xs' ys, xs = mid ++ xs' → ys.length = mid.length → Bat0 (w.setRow g (cur.toList.take pre.length ++ ((ys.map (Value.int .i64)) ++ cur.toList.drop (pre.length + (ys.map (Value.int .i64)).length))).toArray) p (some g) pre (ys ++ xs') := by
  obtain ⟨v, hp, ho, hr⟩ := h.h
  have hlen := h.len
  obtain ⟨h0, ⟨h1, h2⟩ | ⟨g', cap, cur, h1, h2, h3, h4, h5, h6, h7⟩⟩ := ho
  · rw [h1] at hr; simp [Value.ownBlock] at hr
  · rw [h1] at hr
    simp only [Value.ownBlock, Option.some.injEq] at hr
    subst hr
    rw [Nat.mul_one] at h6 h7
    refine ⟨cur, h3, by simp at h4; omega, fun mid xs' ys hx hy => ⟨⟨v, ?_, ?_, by rw [h1]; rfl⟩, h.ne, ?_⟩⟩
    · rw [setRow_other w g' p _ (fun e => h.ne (by rw [e]))]; exact hp
    · have hC : cur.toList = pre.map (Value.int .i64) ++ (mid.map (Value.int .i64) ++ (xs'.map (Value.int .i64) ++ cur.toList.drop (pre ++ xs).length)) := by
        have := (List.take_append_drop (pre ++ xs).length cur.toList).symm
        rw [h7, hx] at this
        rw [hx]
        simpa using this
      obtain ⟨R, hR⟩ : ∃ R, R = cur.toList.drop (pre ++ xs).length := ⟨_, rfl⟩
      rw [← hR] at hC
      have e1 : cur.toList.take pre.length = pre.map (Value.int .i64) := by rw [hC, List.take_left' (by simp)]
      have e2 : cur.toList.drop (pre.length + (ys.map (Value.int .i64)).length) = xs'.map (Value.int .i64) ++ R := by
        rw [hC, ← List.append_assoc, List.drop_left' (by simp [hy])]
      have hsz : cur.size = pre.length + (mid.length + (xs'.length + R.length)) := by
        have := congrArg List.length hC
        simpa using this
      have hl2 : (pre ++ (ys ++ xs')).length = (pre ++ xs).length := by simp [hx, hy]
      refine ⟨by simp, .inr ⟨g', cap, _, by rw [hl2]; exact h1, h2, setRow_heap w g' _ _ 3 _ h3, by rw [hl2]; exact h4, h5, ?_, ?_⟩⟩
      · rw [e1, e2]; simp; omega
      · rw [e1, e2]
        simp only [List.map_append, Nat.mul_one]
        have : (pre ++ (ys ++ xs')).length = (pre.map (Value.int .i64) ++ (ys.map (Value.int .i64) ++ xs'.map (Value.int .i64))).length := by simp
        rw [this]
        have e3 : pre.map (Value.int .i64) ++ (ys.map (Value.int .i64) ++ (xs'.map (Value.int .i64) ++ R)) = (pre.map (Value.int .i64) ++ (ys.map (Value.int .i64) ++ xs'.map (Value.int .i64))) ++ R := by simp
        rw [e3, List.take_left]
    · rw [hx] at hlen; simp at hlen ⊢; omega
end Go.Proofs.Ytpmggkngakdkhaa
