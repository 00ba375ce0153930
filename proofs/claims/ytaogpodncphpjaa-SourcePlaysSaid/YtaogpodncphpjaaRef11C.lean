/- The document's poll by value: Mark, Put as contracts. -/
import Derived.Test.YtaogpodncphpjaaRef11B
import Derived.Maps.AppendAt
namespace Go.Proofs.Ytaogpodncphpjaa
set_option linter.unusedVariables false
set_option linter.unusedSimpArgs false
open Go.RowKit
/-- What an append is handed: so many cells, of m elements. -/
def Handed (w : World) (vy : Value) (m : Nat) (news : List Value) : Prop :=
  ∃ a c, vy = .slice a m c ∧ ((a = none ∧ m = 0 ∧ c = 0 ∧ news = []) ∨ ∃ ad, a = some ad ∧ ∀ j u, news[j]? = some u → w.cell? (ad.add j) = some u)
theorem wpList_app {P : Program} {w : World} {ops : Array Oper} {rest : List Oper} {o : Oper} {a : Act} {Q : Exit → Act → World → Prop} (hgd : o.guard = none) (s x : Operand) (t : TypeId)
    (ho : o.op = .call { callee := .builtin .append, args := #[s, x], argTypes := #[t, t] })
    (base : Nat) (e : TypeId) (i : TypeInfo) (z : Value) (size bytes : Nat) (ht : P.underlying t = some (.slice e)) (hi : P.info? e = some i) (hz : i.zero = some z)
    (hsize : i.size = size) (hby : i.bytes = bytes) (hzs : z.cells.size = size) (hsz : 0 < size)
    (v : Value) (n : Nat) (xs : List Value) (hs : a.eval s = v) (hown : w.ownsRow base e size v n xs)
    (m : Nat) (news : List Value) (vy : Value) (hx : a.eval x = vy) (hr : Handed w vy m news) (hl : news.length = m * size) (h1 : ∀ u ∈ news, u.oneCell' = true)
    (h63 : n + m ≤ maxLen) (hbytes : (n + m) * bytes ≤ 140737488355328) (hbase : base ≤ w.heap.size)
    (h : ∀ v' w', w'.ownsRow base e size v' (n + m) (xs ++ news) → w.grownBy w' v.ownBlock → wpList P ops Q rest (a.put o.dst v') w') :
    wpList P ops Q (o :: rest) a w := by
  obtain ⟨ad, c, rfl, ⟨rfl, rfl, rfl, rfl⟩ | ⟨ad', rfl, hc⟩⟩ := hr
  · exact wpList_append_own_none hgd s x t ho base e i size ht hi v n xs hs hown hx (h v w (by simpa using hown) (.refl _ _))
  · exact wpList_append_own w hgd s x t ho base e i z size bytes ht hi hz hsize hby hzs hsz v n xs hs hown ad' m c news hx hl hc h1 h63 hbytes hbase (fun v' w' h1 h2 _ => h v' w' h1 h2)
theorem Reads.handed {w : World} {v : Value} {S : List Int} (h : Reads w v S) {w' : World} (hb : Below w.heap.size w w') : Handed w' v S.length (S.map (Value.int .i64)) := by
  obtain ⟨a, c, rfl, hc, hr⟩ := h.of_below hb
  refine ⟨a, c, rfl, ?_⟩
  rcases hc.2.2 with ⟨rfl, rfl⟩ | ⟨ad, rfl⟩
  · have : S = [] := List.length_eq_zero_iff.1 (by omega)
    subst this
    exact .inl ⟨rfl, rfl, rfl, rfl⟩
  · refine .inr ⟨ad, rfl, fun j u hj => ?_⟩
    have hpos : 0 < S.length := by
      rcases Nat.eq_zero_or_pos S.length with h | h
      · rw [List.length_eq_zero_iff] at h; subst h; simp at hj
      · exact h
    obtain ⟨g', off', h2, h3, h4⟩ := hr hpos
    simp only [Option.some.injEq] at h2
    subst h2
    exact news_of h4 j u hj
theorem RdW.handed {w : World} {v : Value} {V : List (Int × Int)} (h : RdW w v V) {w' : World} (hb : Below w.heap.size w w') : Handed w' v V.length (fw V) := by
  have h0 := h
  obtain ⟨a, c, rfl, hc, hr⟩ := h
  refine ⟨a, c, rfl, ?_⟩
  rcases hc.2.2 with ⟨rfl, rfl⟩ | ⟨ad, rfl⟩
  · have : V = [] := List.length_eq_zero_iff.1 (by omega)
    subst this
    exact .inl ⟨rfl, rfl, rfl, rfl⟩
  · exact .inr ⟨ad, rfl, h0.news hb⟩
/-- What a deed of the document's hands back. -/
def DpPost (w : World) (vW vS : Value) (V : List (Int × Int)) (S : List Int) (er : Int) (e : Ending) (w' : World) : Prop :=
  ∃ vW' vS', e = .returned (.tuple #[.agg #[vW', vS'], .int .i64 er]) ∧ Dp w' vW' vS' V S ∧ Below w.heap.size w w' ∧ (∀ q, vW'.ownBlock = some q → vW.ownBlock = some q ∨ (w.heap.size ≤ q ∧ q < w'.heap.size)) ∧ ∀ q, vS'.ownBlock = some q → vS.ownBlock = some q ∨ (w.heap.size ≤ q ∧ q < w'.heap.size)
theorem results_row_tmp {P : Program} {fn : Func} {p u : Tmp} {ty : TypeId} (h : fn.results = #[.cell p ty, .tmp u]) (tmps : Array Value) (w : World) (g : Nat) (t : TypeId) (cs : Array Value) (fr : Nat × Nat) (d : TypeDesc)
    (hp : tmps.getD p undef = .pointer (some ⟨g, 0, none⟩)) (hg : w.heap[g]? = some (.cells cs t fr))
    (hu : P.underlying ty = some d) (hd : (match d with | .struct _ | .array _ _ => true | _ => false) = true) (hi : (P.info? ty).map (·.size) = some cs.size) (b : Value) (hb : tmps.getD u undef = b) :
    (results fn tmps).run P w = .ok (.tuple #[.agg cs, b]) w := by
  rw [results_cell_tmp h, hp, hb]
  simp [asAddr, run_loadVar_row w g t ty cs fr d hg hu hd hi, Result.andThen]
theorem infoIntP : (Try.prog.info? 3).map (fun i => (i.zero, i.size, i.bytes)) = some (some (.int .i64 0), 1, 8) := by kernel_rfl
theorem infoW : (Try.prog.info? 121).map (fun i => (i.zero, i.size, i.bytes)) = some (some (.agg #[.int .i64 0, .int .i64 0]), 2, 16) := by kernel_rfl
set_option maxHeartbeats 4000000 in
theorem mark_full (w : World) (vW vS : Value) (V : List (Int × Int)) (S : List Int) (h : Dp w vW vS V S) (fd : Int) (hf : rfull V S fd = true) :
    Calls Try.prog 49 #[.agg #[vW, vS], .int .i64 fd] w (DpPost w vW vS V S 2) := by
  obtain ⟨aW, nW, cW, aS, nS, cS, rfl, rfl, _, _, lw, ls⟩ := h.sl
  have hb0 := ((Below.refl w.heap.size w).alloc (Nat.le_refl _) (.cells #[.slice aW nW cW, .slice aS nS cS] 33)).alloc (by simp) (.cells #[.slice none 0 0, .slice none 0 0] 33)
  have H := hid (h.below hb0)
  have B := hid hb0
  have K := hid (heap_alloc2_old w (.cells #[.slice aW nW cW, .slice aS nS cS] 33) (.cells #[.slice none 0 0, .slice none 0 0] 33))
  have R := hid (heap_alloc2_new w (.cells #[.slice aW nW cW, .slice aS nS cS] 33) (.cells #[.slice none 0 0, .slice none 0 0] 33))
  have HF := hid hf
  have HD := hid h
  have y0 := blk_cell K.out (i := 0) rfl
  have y1 := blk_cell K.out (i := 1) rfl
  clear h hb0 hf
  go_enter Try.func49, Try.ntmps49
  go_wp2_with fail
  refine (rfull_any _ _ _ V S H.out fd true HF.out).mono ?_
  rintro e w2 ⟨rfl, h2⟩
  have hsz : ((w.alloc (.cells #[.slice aW nW cW, .slice aS nS cS] 33)).alloc (.cells #[.slice none 0 0, .slice none 0 0] 33)).heap.size = w.heap.size + 2 := by simp
  have K2 := hid ((h2.block _ (by rw [hsz]; omega)).trans K.out)
  have R2 := hid ((h2.block _ (by rw [hsz]; omega)).trans R.out)
  have H2 := hid (H.out.below h2)
  have B2 := hid (B.out.trans (h2.mono B.out.size))
  have FIN := hid (show DpPost w (.slice aW nW cW) (.slice aS nS cS) V S 2 (.returned (.tuple #[.agg #[.slice aW nW cW, .slice aS nS cS], .int .i64 2])) (w2.setRow (w.heap.size + 1) #[.slice aW nW cW, .slice aS nS cS]) from
    have BF := row_below B2.out (show w.heap.size ≤ w.heap.size + 1 by omega) #[.slice aW nW cW, .slice aS nS cS]
    ⟨_, _, rfl, HD.out.below BF, BF, fun q hq => .inl hq, fun q hq => .inl hq⟩)
  clear h2 H K R B y0 y1 HD
  go_wp2_with (first
    | (refine wpList_load_known (by rfl) 33 (.tmp 2) rfl w.heap.size rfl 33 #[.slice aW nW cW, .slice aS nS cS] (0, 0) _ K2.out Try.underlying33 rfl (by kernel_rfl) ?_)
    | (refine wpList_store_row rfl 33 (.tmp 4) (.tmp 9) rfl (w.heap.size + 1) #[.slice aW nW cW, .slice aS nS cS] rfl rfl 33 _ R2.out (by kernel_rfl) (by rfl) (by simp [Value.oneCell']) ?_))
  refine bodyPost_ret (v := .tuple #[.agg #[.slice aW nW cW, .slice aS nS cS], .int .i64 2]) (results_row_tmp rfl _ _ (w.heap.size + 1) 33 #[.slice aW nW cW, .slice aS nS cS] (0, 0) _ (by rfl) (setRow_heap _ _ _ _ _ _ R2.out) Try.underlying33 rfl (by kernel_rfl) _ (by rfl)) rfl FIN.out
end Go.Proofs.Ytaogpodncphpjaa
