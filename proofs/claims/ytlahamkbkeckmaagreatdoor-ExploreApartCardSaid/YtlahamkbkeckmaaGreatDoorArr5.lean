/- Rows of five numbers as keys of a map. -/
import Derived.Test.YtlahamkbkeckmaaGreatDoorMapK
import Derived.ChangeKeysEq
namespace Go.Proofs.YtlahamkbkeckmaaGreatDoor
set_option linter.unusedVariables false
set_option linter.unusedSimpArgs false
set_option maxRecDepth 20000
open Go.RowKit Go.MapKept

abbrev Five := Int × Int × Int × Int × Int
def enc5 (e : Five) : Value := .agg #[.int .i64 e.1, .int .i64 e.2.1, .int .i64 e.2.2.1, .int .i64 e.2.2.2.1, .int .i64 e.2.2.2.2]
theorem enc5_inj (a b : Five) (h : enc5 a = enc5 b) : a = b := by
  obtain ⟨a1, a2, a3, a4, a5⟩ := a
  obtain ⟨b1, b2, b3, b4, b5⟩ := b
  simp [enc5] at h
  obtain ⟨rfl, rfl, rfl, rfl, rfl⟩ := h
  rfl
theorem cellsInt5 : Tryz.prog.cellsOf 3 = 1 := by kernel_rfl
theorem partInt5 (xs : Array Value) (o : Nat) (v : Value) (hv : xs[o]? = some v) (w : World) : (part 3 xs o).run Tryz.prog w = .ok v w := by
  simp [part, isAgg, run_underlying Tryz.underlying3, Result.andThen, hv]
theorem eq5 (a b : Five) (w : World) : (Op.equal 27 (enc5 a) (enc5 b)).run Tryz.prog w = .ok (decide (a = b)) w := by
  obtain ⟨a1, a2, a3, a4, a5⟩ := a
  obtain ⟨b1, b2, b3, b4, b5⟩ := b
  obtain ⟨i, hi⟩ := info_of_underlying Tryz.underlying3
  unfold Op.equal enc5
  rw [show Op.maxDepth = 9998 + 1 + 1 from rfl, run_equalIn_array w (9998 + 1) _ _ Tryz.underlying27 hi, cellsInt5]
  have p0 := fun (x y z u v : Value) => partInt5 #[x, y, z, u, v] 0 x rfl w
  have p1 := fun (x y z u v : Value) => partInt5 #[x, y, z, u, v] 1 y rfl w
  have p2 := fun (x y z u v : Value) => partInt5 #[x, y, z, u, v] 2 z rfl w
  have p3 := fun (x y z u v : Value) => partInt5 #[x, y, z, u, v] 3 u rfl w
  have p4 := fun (x y z u v : Value) => partInt5 #[x, y, z, u, v] 4 v rfl w
  simp only [show List.range 5 = [0, 1, 2, 3, 4] from rfl, Op.eqItems, Nat.mul_one, Sem.run_bind, p0, p1, p2, p3, p4, Result.andThen_ok, run_equalIn_int w _ _ _ _ _ _ Tryz.underlying3, Sem.run_ite, Sem.run_pure]
  by_cases e1 : a1 = b1 <;> by_cases e2 : a2 = b2 <;> by_cases e3 : a3 = b3 <;> by_cases e4 : a4 = b4 <;> by_cases e5 : a5 = b5 <;> simp [e1, e2, e3, e4, e5]
theorem chk5 (e : Bool) (w : World) (a : Five) : (Instr.checkKey e 10000 27 (enc5 a)).run Tryz.prog w = .ok () w := by
  obtain ⟨a1, a2, a3, a4, a5⟩ := a
  obtain ⟨i, hi⟩ := info_of_underlying Tryz.underlying3
  have p0 := fun (x y z u v : Value) => partInt5 #[x, y, z, u, v] 0 x rfl w
  have p1 := fun (x y z u v : Value) => partInt5 #[x, y, z, u, v] 1 y rfl w
  have p2 := fun (x y z u v : Value) => partInt5 #[x, y, z, u, v] 2 z rfl w
  have p3 := fun (x y z u v : Value) => partInt5 #[x, y, z, u, v] 3 u rfl w
  have p4 := fun (x y z u v : Value) => partInt5 #[x, y, z, u, v] 4 v rfl w
  have k1 := fun x => run_checkKey (P := Tryz.prog) (w := w) Tryz.underlying3 (k := .int .i64 x) (by simp [IsKey]) e 9998
  rw [show (10000 : Nat) = 9998 + 1 + 1 from rfl]
  unfold Instr.checkKey enc5
  simp only [Sem.run_bind, run_underlying Tryz.underlying27, Result.andThen_ok]
  simp only [Std.Legacy.Range.forIn_eq_forIn_range', Std.Legacy.Range.size, Nat.sub_zero, Nat.add_one_sub_one, Nat.div_one]
  simp only [show List.range' 0 5 = [0, 1, 2, 3, 4] from rfl, List.forIn_cons, List.forIn_nil, run_sizeOf w hi, cellsInt5, Nat.mul_one, Sem.run_bind, p0, p1, p2, p3, p4, Result.andThen_ok, k1, Sem.run_pure]
theorem ask5 (a : Five) (w : World) : ∀ (l : List MapEntry) (i : Nat), (∀ x ∈ l, ∃ b, x.key = enc5 b) →
    ((Instr.findAsking 27 (enc5 a) l i).run Tryz.prog w = .ok none w ∧ ∀ x ∈ l, x.key ≠ enc5 a) ∨ ∃ j e, (Instr.findAsking 27 (enc5 a) l i).run Tryz.prog w = .ok (some (i + j, e.val)) w ∧ l[j]? = some e ∧ e.key = enc5 a
  | [], i, _ => .inl ⟨rfl, by simp⟩
  | x :: l, i, h => by
    obtain ⟨b, hb⟩ := h x (.head _)
    by_cases e : a = b
    · refine .inr ⟨0, x, ?_, rfl, by rw [hb, e]⟩
      simp [Instr.findAsking, Sem.run_bind, hb, eq5, e, Result.andThen]
    · have hx : x.key ≠ enc5 a := fun q => e (enc5_inj _ _ (q.symm.trans hb))
      rcases ask5 a w l (i + 1) (fun y hy => h y (.tail _ hy)) with ⟨h1, h2⟩ | ⟨j, y, h1, h2, h3⟩
      · refine .inl ⟨?_, fun y hy => by
          cases hy with
          | head => exact hx
          | tail _ hy => exact h2 y hy⟩
        simp [Instr.findAsking, Sem.run_bind, hb, eq5, e, Result.andThen, h1]
      · refine .inr ⟨j + 1, y, ?_, by simpa using h2, h3⟩
        simp [Instr.findAsking, Sem.run_bind, hb, eq5, e, Result.andThen, h1]
        omega
theorem key5 : KeyT Tryz.prog 27 Five enc5 where
  inj := enc5_inj
  chk := chk5
  fnd w a l hl := by
    have hf : (Instr.findKey 27 (enc5 a) l).run Tryz.prog w = (Instr.findAsking 27 (enc5 a) l 0).run Tryz.prog w := by
      unfold Instr.findKey
      simp only [Sem.run_bind, run_underlying Tryz.underlying27, Result.andThen_ok]
      cases l with
      | nil => rfl
      | cons x l =>
        have : Instr.sameNow (.array 5 3) (enc5 a) x.key = none := by simp [Instr.sameNow, enc5]
        simp only [Instr.findNow, this]
    rw [hf]
    rcases ask5 a w l 0 hl with h | ⟨j, e, h1, h2, h3⟩
    · exact .inl h
    · exact .inr ⟨j, e, by simpa using h1, h2, h3⟩
  stay a w := by
    have : Instr.sameBits 10000 (enc5 a) (enc5 a) = true := by
      rw [show (10000 : Nat) = 9999 + 1 from rfl]
      simp [enc5, Instr.sameBits]
    simp [Instr.keyThatStays, this]
theorem zeroInt5 (w : World) : (zeroValue 3).run Tryz.prog w = .ok (.int .i64 0) w := by kernel_rfl
/-- An entry that isn't there yet is asked for, and filled: each step's equation. -/
theorem fresh5 {w : World} {b : Nat} {g : Five → Option Value} {n : Nat} (h : MapK w b enc5 g n) (a : Five) (ha : g a = none) (v : Value) : ∃ w1 s w2,
    (Instr.lookup 24 (.map (some b)) (enc5 a) false).run Tryz.prog w = .ok (.int .i64 0) w ∧
    (Instr.mapEntry 24 (.map (some b)) (enc5 a)).run Tryz.prog w = .ok (.tuple #[.int .i64 0, .int .i64 (s : Nat)]) w1 ∧
    (Instr.lookup 24 (.map (some b)) (enc5 a) false).run Tryz.prog w1 = .ok (.int .i64 0) w1 ∧
    (Instr.entryStore 24 (.map (some b)) (.int .i64 (s : Nat)) v).run Tryz.prog w1 = .ok () w2 ∧
    MapK w2 b enc5 (updK g a (some v)) (n + 1) ∧ Only b b w w2 := by
  obtain ⟨w1, s, r1, hS, o1⟩ := h.entry key5 Tryz.underlying24 zeroInt5 a
  rw [ha, if_pos rfl] at hS
  rw [ha] at r1
  obtain ⟨w2, r2, hK, o2⟩ := hS.put (t := 24) key5 v
  rw [updK_updK] at hK
  exact ⟨w1, s, w2, h.look_miss key5 Tryz.underlying24 zeroInt5 ha false, r1, hS.weak.look_hit key5 Tryz.underlying24 (updK_same _ _ _) false, r2, hK, o1.trans o2⟩
end Go.Proofs.YtlahamkbkeckmaaGreatDoor
