/- An append of events that read. -/
import Derived.Test.YtnaphgjkkagpoaaDoorRdE
import Derived.Maps.AppendAt
namespace Go.Proofs.YtnaphgjkkagpoaaDoor
open Go.RowKit
set_option linter.unusedVariables false
set_option linter.unusedSimpArgs false
theorem infoEv : (Tryd.prog.info? 29).map (fun i => (i.zero, i.size, i.bytes)) = some (some (.agg #[.int .i64 0, .int .i64 0, .int .i64 0, .int .i64 0, .int .i64 0]), 5, 40) := by kernel_rfl
/-- An append of events that read. -/
theorem wpList_append_rdE {P : Program} {w : World} {ops : Array Oper} {rest : List Oper} {o : Oper} {a : Act} {Q : Exit → Act → World → Prop} (hgd : o.guard = none) (s x : Operand) (t : TypeId)
    (ho : o.op = .call { callee := .builtin .append, args := #[s, x], argTypes := #[t, t] })
    (base : Nat) (e : TypeId) (i : TypeInfo) (z : Value) (bytes : Nat) (ht : P.underlying t = some (.slice e)) (hi : P.info? e = some i) (hz : i.zero = some z)
    (hsize : i.size = 5) (hby : i.bytes = bytes) (hzs : z.cells.size = 5)
    (v : Value) (n : Nat) (xs : List Value) (hs : a.eval s = v) (hown : w.ownsRow base e 5 v n xs)
    (es : List Ev) (vy : Value) (hx : a.eval x = vy) (hr : RdE w vy es)
    (h63 : n + es.length ≤ maxLen) (hbytes : (n + es.length) * bytes ≤ 140737488355328) (hbase : base ≤ w.heap.size)
    (h : ∀ v' w', w'.ownsRow base e 5 v' (n + es.length) (xs ++ fe es) → w.grownBy w' v.ownBlock → wpList P ops Q rest (a.put o.dst v') w') :
    wpList P ops Q (o :: rest) a w := by
  have hr0 := hr
  obtain ⟨ad, c, rfl, hc, hrd⟩ := hr
  rcases hc.2.2 with ⟨rfl, rfl⟩ | ⟨ad', rfl⟩
  · have hy0 : es = [] := List.length_eq_zero_iff.1 (by omega)
    subst hy0
    exact wpList_append_own_none hgd s x t ho base e i 5 ht hi v n xs hs hown hx (h v w (by simpa [fe] using hown) (.refl _ _))
  · exact wpList_append_own w hgd s x t ho base e i z 5 bytes ht hi hz hsize hby hzs (by decide) v n xs hs hown ad' es.length c (fe es) hx (fe_len es) (hr0.news (Below.refl _ _)) (fe_ones es) h63 hbytes hbase (fun v' w' h1 h2 _ => h v' w' h1 h2)
theorem own_lt {w : World} {base sz n : Nat} {t : TypeId} {v : Value} {xs : List Value} (h : w.ownsRow base t sz v n xs) : ∀ q, v.ownBlock = some q → base ≤ q := fun q hq => (World.ownsRow.lt h q hq).1
theorem own_slice {w : World} {base sz n : Nat} {t : TypeId} {v : Value} {xs : List Value} (h : w.ownsRow base t sz v n xs) : ∃ a c, v = .slice a n c := by
  obtain ⟨h0, ⟨h1, h2⟩ | ⟨g, cap, cur, h1, _⟩⟩ := h
  · exact ⟨none, 0, by rw [h1, h2]⟩
  · exact ⟨_, _, h1⟩

/-- Are two events one? -/
theorem equalIn_ev (a b c d e a' b' c' d' e' : Int) (w : World) : (Op.equalIn 10000 29 (.agg #[.int .i64 a, .int .i64 b, .int .i64 c, .int .i64 d, .int .i64 e]) (.agg #[.int .i64 a', .int .i64 b', .int .i64 c', .int .i64 d', .int .i64 e'])).run Tryd.prog w = .ok (decide (((a, b, c, d, e) : Ev) = (a', b', c', d', e'))) w := by
  have u0 := Tryd.underlying27
  have u1 := Tryd.underlying3
  have u2 := Tryd.underlying2
  have hS : Tryd.prog.underlying 29 = some (.struct (Tryd.prog.fieldsOf 29)) := by kernel_rfl
  have hp : Tryd.prog.stoodInHeld 29 = false := by kernel_rfl
  rw [show (10000 : Nat) = 9999 + 1 from rfl, run_equalIn_agg w 9999 29 _ _ hS hp]
  simp only [Program.fieldsOf, Tryd.underlying29]
  go_simp
  by_cases h1 : a = a' <;> by_cases h2 : b = b' <;> by_cases h3 : c = c' <;> by_cases h4 : d = d' <;> by_cases h5 : e = e' <;> simp [h1, h2, h3, h4, h5]
end Go.Proofs.YtnaphgjkkagpoaaDoor
