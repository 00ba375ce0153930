/- Entries as keys of a map. -/
import Derived.Test.YthkaachdggajkaaMapK
import Derived.Test.YthkaachdggajkaaHeap2
namespace Go.Proofs.Ythkaachdggajkaa
set_option linter.unusedVariables false
set_option linter.unusedSimpArgs false
open Go.RowKit Go.MapKept

def encE (e : Int × Int × Int) : Value := .agg #[.int .i64 e.1, .int .u64 e.2.1, .int .i64 e.2.2]
theorem encE_inj (a b : Int × Int × Int) (h : encE a = encE b) : a = b := by
  obtain ⟨a1, a2, a3⟩ := a
  obtain ⟨b1, b2, b3⟩ := b
  simp [encE] at h
  obtain ⟨rfl, rfl, rfl⟩ := h
  rfl
theorem fieldsE : (Try.prog.fieldsOf 29).toList.map (fun f => (f.name == "_", f.type, f.offset)) = [(false, 2, 0), (false, 27, 1), (false, 3, 2)] := by kernel_rfl
theorem undE : Try.prog.underlying 29 = some (.struct (Try.prog.fieldsOf 29)) := by kernel_rfl
theorem fieldsE' : ∃ f1 f2 f3 : Field, (Try.prog.fieldsOf 29) = #[f1, f2, f3] ∧ (f1.name ≠ "_" ∧ f1.type = 2 ∧ f1.offset = 0) ∧ (f2.name ≠ "_" ∧ f2.type = 27 ∧ f2.offset = 1) ∧ (f3.name ≠ "_" ∧ f3.type = 3 ∧ f3.offset = 2) := by
  have h := fieldsE
  generalize Try.prog.fieldsOf 29 = F at h
  obtain ⟨l⟩ := F
  rcases l with _ | ⟨f1, _ | ⟨f2, _ | ⟨f3, _ | ⟨f4, l⟩⟩⟩⟩ <;> simp at h
  exact ⟨f1, f2, f3, rfl, ⟨h.1.1, h.1.2⟩, ⟨h.2.1.1, h.2.1.2⟩, ⟨h.2.2.1, h.2.2.2⟩⟩
theorem part64 (t : TypeId) (k : IntKind) (ht : Try.prog.underlying t = some (.int k)) (xs : Array Value) (o : Nat) (v : Value) (hv : xs[o]? = some v) (w : World) : (part t xs o).run Try.prog w = .ok v w := by
  simp [part, isAgg, run_underlying ht, Result.andThen, hv]
theorem eqE (a b : Int × Int × Int) (w : World) : (Op.equal 29 (encE a) (encE b)).run Try.prog w = .ok (decide (a = b)) w := by
  obtain ⟨a1, a2, a3⟩ := a
  obtain ⟨b1, b2, b3⟩ := b
  obtain ⟨f1, f2, f3, hF, ⟨n1, t1, o1⟩, ⟨n2, t2, o2⟩, n3, t3, o3⟩ := fieldsE'
  unfold Op.equal encE
  rw [show Op.maxDepth = 9998 + 1 + 1 from rfl, run_equalIn_struct w _ _ _ _ undE (by kernel_rfl), hF]
  have p1 := fun (x y z : Value) => part64 2 _ Try.underlying2 #[x, y, z] 0 x rfl w
  have p2 := fun (x y z : Value) => part64 27 _ Try.underlying27 #[x, y, z] 1 y rfl w
  have p3 := fun (x y z : Value) => part64 3 _ Try.underlying3 #[x, y, z] 2 z rfl w
  simp only [Op.eqFields, n1, n2, n3, t1, t2, t3, o1, o2, o3, ne_eq, not_false_eq_true, if_true, Sem.run_bind, p1, p2, p3, Result.andThen_ok, run_equalIn_int w _ _ _ _ _ _ Try.underlying2, run_equalIn_int w _ _ _ _ _ _ Try.underlying27, run_equalIn_int w _ _ _ _ _ _ Try.underlying3, Sem.run_ite, Sem.run_pure]
  by_cases e1 : a1 = b1 <;> by_cases e2 : a2 = b2 <;> by_cases e3 : a3 = b3 <;> simp [e1, e2, e3]
theorem chkE (e : Bool) (w : World) (a : Int × Int × Int) : (Instr.checkKey e 10000 29 (encE a)).run Try.prog w = .ok () w := by
  obtain ⟨a1, a2, a3⟩ := a
  obtain ⟨f1, f2, f3, hF, ⟨n1, t1, o1⟩, ⟨n2, t2, o2⟩, n3, t3, o3⟩ := fieldsE'
  have p1 := fun (x y z : Value) => part64 2 _ Try.underlying2 #[x, y, z] 0 x rfl w
  have p2 := fun (x y z : Value) => part64 27 _ Try.underlying27 #[x, y, z] 1 y rfl w
  have p3 := fun (x y z : Value) => part64 3 _ Try.underlying3 #[x, y, z] 2 z rfl w
  have k1 := run_checkKey (P := Try.prog) (w := w) Try.underlying2 (k := .int .i64 a1) (by simp [IsKey]) e 9998
  have k2 := run_checkKey (P := Try.prog) (w := w) Try.underlying27 (k := .int .u64 a2) (by simp [IsKey]) e 9998
  have k3 := run_checkKey (P := Try.prog) (w := w) Try.underlying3 (k := .int .i64 a3) (by simp [IsKey]) e 9998
  rw [show (10000 : Nat) = 9998 + 1 + 1 from rfl]
  unfold Instr.checkKey encE
  simp only [Sem.run_bind, run_underlying undE, Result.andThen_ok]
  rw [hF, ← Array.forIn_toList]
  simp only [List.forIn_cons, List.forIn_nil, n1, n2, n3, t1, t2, t3, o1, o2, o3, ne_eq, not_false_eq_true, if_true, Sem.run_bind, p1, p2, p3, Result.andThen_ok, k1, k2, k3, Sem.run_pure]
theorem askE (a : Int × Int × Int) (w : World) : ∀ (l : List MapEntry) (i : Nat), (∀ x ∈ l, ∃ b, x.key = encE b) →
    ((Instr.findAsking 29 (encE a) l i).run Try.prog w = .ok none w ∧ ∀ x ∈ l, x.key ≠ encE a) ∨ ∃ j e, (Instr.findAsking 29 (encE a) l i).run Try.prog w = .ok (some (i + j, e.val)) w ∧ l[j]? = some e ∧ e.key = encE a
  | [], i, _ => .inl ⟨rfl, by simp⟩
  | x :: l, i, h => by
    obtain ⟨b, hb⟩ := h x (.head _)
    by_cases e : a = b
    · refine .inr ⟨0, x, ?_, rfl, by rw [hb, e]⟩
      simp [Instr.findAsking, Sem.run_bind, hb, eqE, e, Result.andThen]
    · have hx : x.key ≠ encE a := fun q => e (encE_inj _ _ (q.symm.trans hb))
      rcases askE a w l (i + 1) (fun y hy => h y (.tail _ hy)) with ⟨h1, h2⟩ | ⟨j, y, h1, h2, h3⟩
      · refine .inl ⟨?_, fun y hy => by
          cases hy with
          | head => exact hx
          | tail _ hy => exact h2 y hy⟩
        simp [Instr.findAsking, Sem.run_bind, hb, eqE, e, Result.andThen, h1]
      · refine .inr ⟨j + 1, y, ?_, by simpa using h2, h3⟩
        simp [Instr.findAsking, Sem.run_bind, hb, eqE, e, Result.andThen, h1]
        omega
theorem sameNowE (k v : Value) (fs : Array Field) (a : Int × Int × Int) : Instr.sameNow (.struct fs) (encE a) v = none := by
  simp [Instr.sameNow, encE]
theorem keyE : KeyT Try.prog 29 (Int × Int × Int) encE where
  inj := encE_inj
  chk := chkE
  fnd w a l hl := by
    have hf : (Instr.findKey 29 (encE a) l).run Try.prog w = (Instr.findAsking 29 (encE a) l 0).run Try.prog w := by
      unfold Instr.findKey
      simp only [Sem.run_bind, run_underlying undE, Result.andThen_ok]
      cases l with
      | nil => rfl
      | cons x l => simp only [Instr.findNow, sameNowE (.nilIface) x.key]
    rw [hf]
    rcases askE a w l 0 hl with h | ⟨j, e, h1, h2, h3⟩
    · exact .inl h
    · exact .inr ⟨j, e, by simpa using h1, h2, h3⟩
  stay a w := by
    have : Instr.sameBits 10000 (encE a) (encE a) = true := by
      rw [show (10000 : Nat) = 9999 + 1 from rfl]
      simp [encE, Instr.sameBits]
    simp [Instr.keyThatStays, this]

theorem zeroI (w : World) : (zeroValue 3).run Try.prog w = .ok (.int .i64 0) w := by kernel_rfl
/-- A map that counts. -/
structure Ctr (w : World) (b : Nat) (f : Int × Int × Int → Nat) : Prop where
  h : ∃ g n, MapK w b encE g n ∧ ∀ e, (g e).getD (.int .i64 0) = .int .i64 (f e)
theorem Ctr.new (w : World) : Ctr (w.alloc (.map #[] 0)) w.heap.size (fun _ => 0) := ⟨_, 0, MapK.new w encE, fun e => rfl⟩
theorem Ctr.lt {w : World} {b : Nat} {f : Int × Int × Int → Nat} (h : Ctr w b f) : b < w.heap.size := by obtain ⟨g, n, h1, _⟩ := h.h; exact h1.lt
theorem Ctr.kept {w w' : World} {b : Nat} {f : Int × Int × Int → Nat} (h : Ctr w b f) (e : w'.heap[b]? = w.heap[b]?) : Ctr w' b f := by
  obtain ⟨g, n, h1, h2⟩ := h.h
  exact ⟨g, n, h1.kept e, h2⟩
theorem Ctr.look {w : World} {b : Nat} {f : Int × Int × Int → Nat} (h : Ctr w b f) (e1 e2 e3 : Int) :
    (Instr.lookup 45 (.map (some b)) (.agg #[.int .i64 e1, .int .u64 e2, .int .i64 e3]) false).run Try.prog w = .ok (.int .i64 (f (e1, e2, e3))) w := by
  obtain ⟨g, n, h1, h2⟩ := h.h
  have := h2 (e1, e2, e3)
  rcases hg : g (e1, e2, e3) with _ | v
  · rw [hg] at this
    rw [← this]
    exact h1.look_miss keyE Try.underlying45 zeroI hg false
  · rw [hg] at this
    rw [← this]
    exact h1.look_hit keyE Try.underlying45 hg false
/-- An entry is asked for, and filled: each step's equation. -/
theorem Ctr.step {w : World} {b : Nat} {f : Int × Int × Int → Nat} (h : Ctr w b f) (e1 e2 e3 : Int) (m : Int) (k : Nat) (hm : m = k) : ∃ w1 s w2,
    (Instr.mapEntry 45 (.map (some b)) (.agg #[.int .i64 e1, .int .u64 e2, .int .i64 e3])).run Try.prog w = .ok (.tuple #[.int .i64 (f (e1, e2, e3)), .int .i64 (s : Nat)]) w1 ∧
    (Instr.lookup 45 (.map (some b)) (.agg #[.int .i64 e1, .int .u64 e2, .int .i64 e3]) false).run Try.prog w1 = .ok (.int .i64 (f (e1, e2, e3))) w1 ∧
    (Instr.entryStore 45 (.map (some b)) (.int .i64 (s : Nat)) (.int .i64 m)).run Try.prog w1 = .ok () w2 ∧
    Ctr w2 b (fun e => if e = (e1, e2, e3) then k else f e) ∧ Only b b w w2 := by
  obtain ⟨g, n, h1, h2⟩ := h.h
  subst hm
  obtain ⟨w1, s, r1, hS, o1⟩ := h1.entry keyE Try.underlying45 zeroI (e1, e2, e3)
  rw [h2] at r1 hS
  obtain ⟨w2, r2, hK, o2⟩ := hS.put (t := 45) keyE (.int .i64 k)
  refine ⟨w1, s, w2, r1, ?_, r2, ⟨_, _, hK, fun e => ?_⟩, o1.trans o2⟩
  · exact hS.weak.look_hit keyE Try.underlying45 (updK_same _ _ _) false
  · unfold updK
    by_cases he : e = (e1, e2, e3)
    · simp [he]
    · simp only [if_neg he]; exact h2 e
end Go.Proofs.Ythkaachdggajkaa
