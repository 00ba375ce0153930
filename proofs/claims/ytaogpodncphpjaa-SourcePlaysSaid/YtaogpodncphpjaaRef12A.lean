/- The document's source by value: what its deeds read (Len, Out, Due), New. -/
import Derived.Test.YtaogpodncphpjaaTAll
import Derived.Test.YtaogpodncphpjaaPAll
import Derived.Test.YtaogpodncphpjaaPre1
import Derived.Deep.MidRow
namespace Go.Proofs.Ytaogpodncphpjaa
set_option linter.unusedVariables false
set_option linter.unusedSimpArgs false
open Go.RowKit
/-- The cells of the document's source. -/
@[reducible] def sx (now : Int) (n : Nat) (vL : Value) (o : Nat) (vW vS : Value) : Array Value := #[.int .i64 now, .int .i64 n, vL, .int .u64 o, vW, vS]
@[reducible] def sz : Array Value := #[.int .i64 0, .int .i64 0, .slice none 0 0, .int .u64 0, .slice none 0 0, .slice none 0 0]
structure D12 (w : World) (vL vW vS : Value) (D : List Tr) (V : List (Int × Int)) (S : List Int) : Prop where
  dt : Dt w vL D
  dp : Dp w vW vS V S
  oL : ∀ q, vL.ownBlock = some q → q < w.heap.size
  oW : ∀ q, vW.ownBlock = some q → q < w.heap.size
  oS : ∀ q, vS.ownBlock = some q → q < w.heap.size
  gv : ∀ e ∈ V, (0 ≤ e.1 ∧ e.1 ≤ 65535) ∧ 0 ≤ e.2 ∧ e.2 < 4096
  nd : (V.map Prod.fst).Nodup
theorem D12.below {w w' : World} {vL vW vS : Value} {D : List Tr} {V : List (Int × Int)} {S : List Int} (h : D12 w vL vW vS D V S) (hb : Below w.heap.size w w') : D12 w' vL vW vS D V S :=
  ⟨h.dt.below hb, h.dp.below hb, fun q hq => Nat.lt_of_lt_of_le (h.oL q hq) hb.size, fun q hq => Nat.lt_of_lt_of_le (h.oW q hq) hb.size, fun q hq => Nat.lt_of_lt_of_le (h.oS q hq) hb.size, h.gv, h.nd⟩
theorem D12.sl {w : World} {vL vW vS : Value} {D : List Tr} {V : List (Int × Int)} {S : List Int} (h : D12 w vL vW vS D V S) : ∃ aL nL cL aW nW cW aS nS cS, vL = .slice aL nL cL ∧ vW = .slice aW nW cW ∧ vS = .slice aS nS cS ∧ Hid (D.length = nL) ∧ Hid (V.length = nW) ∧ Hid (S.length = nS) ∧ nL ≤ 1000 ∧ nW ≤ 1000 ∧ nS ≤ 1000 := by
  obtain ⟨aL, nL, cL, e1, e2, e3⟩ := h.dt.sl
  obtain ⟨aW, nW, cW, aS, nS, cS, f1, f2, f3, f4, f5, f6⟩ := h.dp.sl
  exact ⟨_, _, _, _, _, _, _, _, _, e1, f1, f2, e2, f3, f4, e3, f5, f6⟩
theorem range3 {w : World} {p o : Nat} {cs : Array Value} {t : TypeId} {fr : Nat × Nat} {a b c : Value} (h : w.heap[p]? = some (.cells cs t fr)) (h0 : cs[o]? = some a) (h1 : cs[o + 1]? = some b) (h2 : cs[o + 2]? = some c) : w.rangeAt p o [a, b, c] := fun j v hv => by
  match j, hv with
  | 0, hv => simp at hv; subst hv; exact blk_cell h h0
  | 1, hv => simp at hv; subst hv; exact blk_cell h h1
  | 2, hv => simp at hv; subst hv; exact blk_cell h h2
  | j + 3, hv => simp at hv
theorem range2 {w : World} {p o : Nat} {cs : Array Value} {t : TypeId} {fr : Nat × Nat} {a b : Value} (h : w.heap[p]? = some (.cells cs t fr)) (h0 : cs[o]? = some a) (h1 : cs[o + 1]? = some b) : w.rangeAt p o [a, b] := fun j v hv => by
  match j, hv with
  | 0, hv => simp at hv; subst hv; exact blk_cell h h0
  | 1, hv => simp at hv; subst hv; exact blk_cell h h1
  | j + 2, hv => simp at hv
theorem wpList_load_midw {P : Program} {w : World} {ops : Array Oper} {rest : List Oper} {op : Oper} {a : Act} {Q : Exit → Act → World → Prop} (hw : Region.wanted op (yielded ops a.tmps) = true) (ty : TypeId) (x : Operand) (ho : op.op = .load ty x)
    (b o : Nat) (hx : a.eval x = .pointer (some ⟨b, o, none⟩)) (cs : List Value) (d : TypeDesc) (hc : w.rangeAt b o cs)
    (hu : P.underlying ty = some d) (hd : d.isRow = true) (hi : (P.info? ty).map (·.size) = some cs.length)
    (h : wpList P ops Q rest (a.put op.dst (.agg cs.toArray)) w) : wpList P ops Q (op :: rest) a w :=
  BigFrame.wpList_want hw fun _ hK => wp_load_mid ty x ho b o hx cs d hc hu hd hi (hK _ _ h)
section
variable {w : World} {now : Int} {n o : Nat} {vL vW vS : Value} {D : List Tr} {V : List (Int × Int)} {S : List Int}
set_option maxHeartbeats 4000000 in
theorem rlen12 (h : D12 w vL vW vS D V S) (m : Nat) (hm : D.length + V.length = m) :
    Calls Try.prog 12 #[.agg (sx now n vL o vW vS)] w fun e w' => e = .returned (.int .i64 m) ∧ Below w.heap.size w w' := by
  obtain ⟨aL, nL, cL, aW, nW, cW, aS, nS, cS, rfl, rfl, rfl, HL, HW, _, l1, l2, _⟩ := h.sl
  have B := hid ((Below.refl w.heap.size w).alloc (Nat.le_refl _) (.cells (sx now n (.slice aL nL cL) o (.slice aW nW cW) (.slice aS nS cS)) 35))
  rw [HL.out, HW.out] at hm
  have W1 : IntKind.i64.wrap ((nL : Int) + nW) = (m : Int) := by
    have hb : IntKind.i64.bits = 64 := rfl
    have hs : IntKind.i64.signed = true := rfl
    simp [IntKind.wrap, hb, hs]
    split <;> omega
  clear h HL HW
  go_enter Try.func12, Try.ntmps12
  go_wp2
  go_ret
  exact ⟨rfl, B.out⟩
set_option maxHeartbeats 4000000 in
theorem rout12 (h : D12 w vL vW vS D V S) (g : Int) (r : Bool) (hr : (thasb D g || rhasb V g) = r) :
    Calls Try.prog 14 #[.agg (sx now n vL o vW vS), .int .i64 g] w fun e w' => e = .returned (.bool r) ∧ Below w.heap.size w w' := by
  obtain ⟨aL, nL, cL, aW, nW, cW, aS, nS, cS, rfl, rfl, rfl, _, _, _, _, _, _⟩ := h.sl
  obtain ⟨P, hP⟩ : ∃ P, P = w.heap.size := ⟨_, rfl⟩
  obtain ⟨w0, hw0⟩ : ∃ w0, w0 = w.alloc (.cells (sx now n (.slice aL nL cL) o (.slice aW nW cW) (.slice aS nS cS)) 35) := ⟨_, rfl⟩
  have hb0 : Below w.heap.size w w0 := by rw [hw0]; exact (Below.refl w.heap.size w).alloc (Nat.le_refl _) _
  have B := hid hb0
  have H := hid (h.below hb0)
  have hs0 : w0.heap.size = P + 1 := by rw [hw0, hP]; simp
  have K := hid (show w0.heap[P]? = some (.cells (sx now n (.slice aL nL cL) o (.slice aW nW cW) (.slice aS nS cS)) 35 (0, 0)) by rw [hw0, hP]; exact heap_alloc_new _ _)
  have HP := hid hP
  clear h hb0
  rcases hg : thasb D g with _ | _
  · rw [hg, Bool.false_or] at hr
    have HR := hid hr
    clear hr
    go_enter Try.func14, Try.ntmps14
    go_wp2_with (refine wpList_load_mid rfl 29 (.tmp 5) rfl w.heap.size 1 rfl [.int .i64 n, .slice aL nL cL, .int .u64 o] _ (by rw [← hw0, ← hP]; exact range3 K.out rfl rfl rfl) Try.underlying29 rfl (by kernel_rfl) ?_)
    rw [← hw0]
    refine (rthas_any _ n o _ D H.out.dt g false hg).mono ?_
    rintro e w2 ⟨rfl, hb2⟩
    have B2 := hid (B.out.trans (hb2.mono B.out.size))
    have K2 := hid ((hb2.block _ (by omega)).trans K.out)
    have RH := hid (rhas_any w2 _ _ V S (H.out.dp.below hb2) g r HR.out)
    clear hb2 hw0 hP K H hs0 hg
    go_wp2_with (refine wpList_load_midw (by rfl) 33 (.tmp 10) rfl w.heap.size 4 rfl [.slice aW nW cW, .slice aS nS cS] _ (by rw [← HP.out]; exact range2 K2.out rfl rfl) Try.underlying33 rfl (by kernel_rfl) ?_)
    refine RH.out.mono ?_
    rintro e w3 ⟨rfl, hb3⟩
    have B3 := hid (B2.out.trans (hb3.mono B2.out.size))
    clear hb3 RH
    go_wp2
    go_ret
    exact ⟨rfl, B3.out⟩
  · obtain rfl : r = true := by rw [← hr, hg]; rfl
    clear hr
    go_enter Try.func14, Try.ntmps14
    go_wp2_with (refine wpList_load_mid rfl 29 (.tmp 5) rfl w.heap.size 1 rfl [.int .i64 n, .slice aL nL cL, .int .u64 o] _ (by rw [← hw0, ← hP]; exact range3 K.out rfl rfl rfl) Try.underlying29 rfl (by kernel_rfl) ?_)
    rw [← hw0]
    refine (rthas_any _ n o _ D H.out.dt g true hg).mono ?_
    rintro e w2 ⟨rfl, hb2⟩
    have B2 := hid (B.out.trans (hb2.mono B.out.size))
    clear hb2 hw0 hP K H hs0 hg
    go_wp2
    go_ret
    exact ⟨rfl, B2.out⟩
end
end Go.Proofs.Ytaogpodncphpjaa
