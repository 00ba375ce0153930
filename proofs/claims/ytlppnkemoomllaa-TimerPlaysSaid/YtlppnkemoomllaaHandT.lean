/- An append of what is handed (program-free but for its import); timers handed. -/
import Derived.Test.YtlppnkemoomllaaRdT
import Derived.Maps.AppendAt
namespace Go.Proofs.Ytlppnkemoomllaa
set_option linter.unusedVariables false
set_option linter.unusedSimpArgs false
open Go.RowKit
/-- What an append is handed: so many cells, of m elements. -/
def HandT (w : World) (vy : Value) (m : Nat) (news : List Value) : Prop :=
  ∃ a c, vy = .slice a m c ∧ ((a = none ∧ m = 0 ∧ c = 0 ∧ news = []) ∨ ∃ ad, a = some ad ∧ ∀ j u, news[j]? = some u → w.cell? (ad.add j) = some u)
theorem wpList_appT {P : Program} {w : World} {ops : Array Oper} {rest : List Oper} {o : Oper} {a : Act} {Q : Exit → Act → World → Prop} (hgd : o.guard = none) (s x : Operand) (t : TypeId)
    (ho : o.op = .call { callee := .builtin .append, args := #[s, x], argTypes := #[t, t] })
    (base : Nat) (e : TypeId) (i : TypeInfo) (z : Value) (size bytes : Nat) (ht : P.underlying t = some (.slice e)) (hi : P.info? e = some i) (hz : i.zero = some z)
    (hsize : i.size = size) (hby : i.bytes = bytes) (hzs : z.cells.size = size) (hsz : 0 < size)
    (v : Value) (n : Nat) (xs : List Value) (hs : a.eval s = v) (hown : w.ownsRow base e size v n xs)
    (m : Nat) (news : List Value) (vy : Value) (hx : a.eval x = vy) (hr : HandT w vy m news) (hl : news.length = m * size) (h1 : ∀ u ∈ news, u.oneCell' = true)
    (h63 : n + m ≤ maxLen) (hbytes : (n + m) * bytes ≤ 140737488355328) (hbase : base ≤ w.heap.size)
    (h : ∀ v' w', w'.ownsRow base e size v' (n + m) (xs ++ news) → w.grownBy w' v.ownBlock → wpList P ops Q rest (a.put o.dst v') w') :
    wpList P ops Q (o :: rest) a w := by
  obtain ⟨ad, c, rfl, ⟨rfl, rfl, rfl, rfl⟩ | ⟨ad', rfl, hc⟩⟩ := hr
  · exact wpList_append_own_none hgd s x t ho base e i size ht hi v n xs hs hown hx (h v w (by simpa using hown) (.refl _ _))
  · exact wpList_append_own w hgd s x t ho base e i z size bytes ht hi hz hsize hby hzs hsz v n xs hs hown ad' m c news hx hl hc h1 h63 hbytes hbase (fun v' w' h1 h2 _ => h v' w' h1 h2)
theorem RdT.handed {w : World} {v : Value} {V : List Tr} (h : RdT w v V) {w' : World} (hb : Below w.heap.size w w') : HandT w' v V.length (ft V) := by
  have h0 := h
  obtain ⟨a, c, rfl, hc, hr⟩ := h
  refine ⟨a, c, rfl, ?_⟩
  rcases hc.2.2 with ⟨rfl, rfl⟩ | ⟨ad, rfl⟩
  · have : V = [] := List.length_eq_zero_iff.1 (by omega)
    subst this
    exact .inl ⟨rfl, rfl, rfl, rfl⟩
  · exact .inr ⟨ad, rfl, h0.news hb⟩
theorem ownT_kept {w w' : World} {base sz n : Nat} {t : TypeId} {v : Value} {xs : List Value} (h : w.ownsRow base t sz v n xs) (hb : ∀ k, v.ownBlock = some k → w'.heap[k]? = w.heap[k]?) : w'.ownsRow base t sz v n xs := by
  obtain ⟨h0, h1 | ⟨g, cap, cur, h1, h2, h3, h4⟩⟩ := h
  · exact ⟨h0, .inl h1⟩
  · exact ⟨h0, .inr ⟨g, cap, cur, h1, h2, by rw [hb g (by rw [h1]; rfl)]; exact h3, h4⟩⟩
theorem readsT {w : World} {base n : Nat} {t : TypeId} {v : Value} {V : List Tr} (h : w.ownsRow base t 4 v n (ft V)) (hn : V.length = n) : RdT w v V := by
  subst hn
  exact own_rdT h
theorem infoTr : (Try.prog.info? 65).map (fun i => (i.zero, i.size, i.bytes)) = some (some (.agg #[.int .i64 0, .int .i64 0, .int .u64 0, .int .i64 0]), 4, 32) := by kernel_rfl
end Go.Proofs.Ytlppnkemoomllaa
