/- hostlerlaw12.do: the relation; each act's two contracts at once. Written by wip/tools/gendo12.py. -/
import Derived.Test.YtaogpodncphpjaaPSn
import Derived.Deep.RegionHeld3
namespace Go.Proofs.Ytaogpodncphpjaa
set_option linter.unusedVariables false
set_option linter.unusedSimpArgs false
open Go.RowKit
theorem Sq.grow {Z : Nat → Prop} {w w' : World} {s t p b1 b2 b3 n : Nat} {now : Int} {es : Nat → List En} {L : List En} {o : Nat} {W : List (Int × Int)} {R : List Int} (h : Sq Z w s t p b1 b2 b3 n now es L o W R) (hb : Below w.heap.size w w') :
    Sq (fun q => Z q ∨ (w.heap.size ≤ q ∧ q < w'.heap.size)) w' s t p b1 b2 b3 n now es L o W R := by
  have h2 := h.below hb
  have l0 := h.lt
  obtain ⟨l1, l2, l3, l4⟩ := h.pq.lt
  obtain ⟨z0, z1, z2, z3, z4⟩ := h.zf
  have hs := hb.size
  refine ⟨h2.box, (h.te.grow hb).weak ?_, h2.pq, h.now, h.whn, h.dis, ⟨?_, ?_, ?_, ?_, ?_⟩, h.ne, ?_⟩
  · rintro q ((hq | hq) | hq | hq | hq | hq | hq)
    · exact ⟨by have := h.hz q hq; omega, .inl (.inl hq)⟩
    · exact ⟨hq.2, .inr hq.1⟩
    · exact ⟨by omega, .inl (.inr (.inl hq))⟩
    · exact ⟨by omega, .inl (.inr (.inr (.inl hq)))⟩
    · exact ⟨by omega, .inl (.inr (.inr (.inr (.inl hq))))⟩
    · exact ⟨by omega, .inl (.inr (.inr (.inr (.inr (.inl hq)))))⟩
    · exact ⟨by omega, .inl (.inr (.inr (.inr (.inr (.inr hq)))))⟩
  · rintro (e | e); exact z0 e; omega
  · rintro (e | e); exact z1 e; omega
  · rintro (e | e); exact z2 e; omega
  · rintro (e | e); exact z3 e; omega
  · rintro (e | e); exact z4 e; omega
  · rintro q (e | e)
    · have := h.hz q e; omega
    · exact e.2
section
variable {Z Z' : Nat → Prop} {w w' : World} {s t p b1 b2 b3 n : Nat} {now : Int} {o : Nat} {D : List Tr} {V : List (Int × Int)} {S : List Int}
theorem PS.grow (h : PS Z w s t p b1 b2 b3 n now o D V S) (hb : Below w.heap.size w w') : PS (fun q => Z q ∨ (w.heap.size ≤ q ∧ q < w'.heap.size)) w' s t p b1 b2 b3 n now o D V S := by
  obtain ⟨es, q⟩ := h.sq
  exact ⟨⟨es, q.grow hb⟩, h.gd, h.gv⟩
theorem PS.weak (h : PS Z' w s t p b1 b2 b3 n now o D V S) (hz : ∀ q, Z q → Z' q) : PS Z w s t p b1 b2 b3 n now o D V S := by
  obtain ⟨es, q⟩ := h.sq
  exact ⟨⟨es, q.weak hz⟩, h.gd, h.gv⟩
theorem PS.only (h : PS Z w s t p b1 b2 b3 n now o D V S) {b : Nat} (oo : Only b b w w') (hb : Z b) : PS Z w' s t p b1 b2 b3 n now o D V S := by
  obtain ⟨es, q⟩ := h.sq
  exact ⟨⟨es, q.only oo hb⟩, h.gd, h.gv⟩
theorem PS.hz (h : PS Z w s t p b1 b2 b3 n now o D V S) : ∀ q, Z q → q < w.heap.size := by
  obtain ⟨es, q⟩ := h.sq
  exact q.hz
theorem PS.inow (h : PS Z w s t p b1 b2 b3 n now o D V S) : inI now := by
  obtain ⟨es, q⟩ := h.sq
  exact q.now
end
/-- What an act of both does: the results, and the state behind it. -/
def Act12 (n : Nat) (now : Int) (o : Nat) (D : List Tr) (V : List (Int × Int)) (S : List Int) (rs : List Value) (v : Value) (fd fp : FuncId) (ad ap : List Value) (o' : Nat) (D' : List Tr) (V' : List (Int × Int)) (S' : List Int) : Prop :=
  (∀ (w : World) (vL vW vS : Value), D12 w vL vW vS D V S → Calls Try.prog fd (.agg (sx now n vL o vW vS) :: ad).toArray w (P12 w vL vW vS now n o' D' V' S' rs)) ∧
  (∀ (Z : Nat → Prop) (w : World) (s t p b1 b2 b3 : Nat), PS Z w s t p b1 b2 b3 n now o D V S → Calls Try.prog fp (.pointer (some ⟨s, 0, none⟩) :: ap).toArray w (PO Z w s t p b1 b2 b3 n now o' D' V' S' v)) ∧
  D'.length ≤ D.length + 1 ∧ V'.length ≤ V.length + 1 ∧ S'.length ≤ S.length + 1 ∧ o' ≤ o + 1
section
variable {n o : Nat} {now : Int} {D : List Tr} {V : List (Int × Int)} {S : List Int}
theorem weV_len (D : List Tr) (V : List (Int × Int)) (fd g : Int) : (weV D V fd g).length ≤ V.length + 1 := by unfold weV; split; exact putV_len _ _ _; omega
theorem slD_len (n : Nat) (D : List Tr) (V : List (Int × Int)) (p g x : Int) (o : Nat) : (slD n D V p g x o).length ≤ D.length + 1 := by unfold slD; split <;> simp
theorem slO_le (n : Nat) (D : List Tr) (V : List (Int × Int)) (p g : Int) (o : Nat) : slO n D V p g o ≤ o + 1 := by unfold slO; split <;> omega
theorem act_wait (hl : V.length + S.length < 1000) (fd g : Int) (hf : 0 ≤ fd ∧ fd ≤ 65535) : ∃ (b : Bool) (c : Int) (V' : List (Int × Int)), Act12 n now o D V S [.bool b, .int .i64 c] (.tuple #[.bool b, .int .i64 c]) 22 23 [.int .i64 fd, .int .i64 g] [.int .u16 fd, .int .i64 g] o D V' S :=
  ⟨_, _, _, fun w vL vW vS h => rwait12 h hl fd g hf, fun Z w s t p b1 b2 b3 h => ps_wait h hl fd g hf, by omega, weV_len _ _ _ _, by omega, by omega⟩
theorem act_ready (hl : V.length + S.length < 1000) (fd : Int) : ∃ (b : Bool) (c : Int) (S' : List Int), Act12 n now o D V S [.bool b, .int .i64 c] (.tuple #[.bool b, .int .i64 c]) 25 26 [.int .i64 fd] [.int .u16 fd] o D V S' :=
  ⟨_, _, _, fun w vL vW vS h => rready12 h hl fd, fun Z w s t p b1 b2 b3 h => ps_ready h hl fd, by omega, by omega, markS_len _ _, by omega⟩
theorem act_sleep (hl : D.length < 1000) (hO : o < 1000000) (hn : inI now) (q g d : Int) (hd : inI d) : ∃ (b : Bool) (c : Int) (o' : Nat) (D' : List Tr), Act12 n now o D V S [.bool b, .int .i64 c] (.tuple #[.bool b, .int .i64 c]) 29 16 [.int .i64 q, .int .i64 g, .int .i64 d] [.int .i64 q, .int .i64 g, .int .i64 d] o' D' V S :=
  ⟨_, _, _, _, fun w vL vW vS h => rsleep12 h q g d hl hO hn hd, fun Z w s t p b1 b2 b3 h => ps_sleep h hl hO q g d hd, slD_len _ _ _ _ _ _ _, by omega, by omega, slO_le _ _ _ _ _ _⟩
theorem act_take (hl : V.length < 1000) : ∃ (g : Int) (b : Bool) (D' : List Tr) (V' : List (Int × Int)) (S' : List Int), Act12 n now o D V S [.int .i64 g, .bool b] (.tuple #[.int .i64 g, .bool b]) 27 18 [] [] o D' V' S' := by
  rcases hd : dueT D now with _ | _
  · exact ⟨_, _, _, _, _, fun w vL vW vS h => rtake12_p h hd, fun Z w s t p b1 b2 b3 h => ps_take_p h hl hd, by omega, by have := tkV_len V S; omega, by have := tkS_len V S; omega, by omega⟩
  · exact ⟨_, _, _, _, _, fun w vL vW vS h => rtake12_t h hd, fun Z w s t p b1 b2 b3 h => ps_take_t h hd, by have := tkD_len D now; omega, by omega, by omega, by omega⟩
end
/-- Both, ahead of an act. -/
structure St12 (Z : Nat → Prop) (s t p b1 b2 b3 n : Nat) (now : Int) (o : Nat) (D : List Tr) (V : List (Int × Int)) (S : List Int) (vL vW vS : Value) (k : Nat) (w : World) : Prop where
  ps : PS Z w s t p b1 b2 b3 n now o D V S
  di : D12 w vL vW vS D V S
  o1 : ∀ q, vL.ownBlock = some q → Z q
  o2 : ∀ q, vW.ownBlock = some q → Z q
  o3 : ∀ q, vS.ownBlock = some q → Z q
  ln : D.length ≤ k ∧ V.length ≤ k ∧ S.length ≤ k ∧ o ≤ k
def Do12 (Z : Nat → Prop) (s t p b1 b2 b3 n : Nat) (k : Nat) (vL vW vS : Value) (w : World) (e : Ending) (w' : World) : Prop :=
  ∃ now' o' D' V' S' vL' vW' vS', e = .returned (.tuple #[.agg (sx now' n vL' o' vW' vS'), .bool true]) ∧ St12 (fun q => Z q ∨ (w.heap.size ≤ q ∧ q < w'.heap.size ∧ (vL'.ownBlock = some q ∨ vW'.ownBlock = some q ∨ vS'.ownBlock = some q))) s t p b1 b2 b3 n now' o' D' V' S' vL' vW' vS' (k + 1) w' ∧ FrZ Z w w' ∧ (∀ q, vL'.ownBlock = some q → vL.ownBlock = some q ∨ w.heap.size ≤ q) ∧ (∀ q, vW'.ownBlock = some q → vW.ownBlock = some q ∨ w.heap.size ≤ q) ∧ (∀ q, vS'.ownBlock = some q → vS.ownBlock = some q ∨ w.heap.size ≤ q)
theorem D12.keep {w w' : World} {vL vW vS : Value} {D : List Tr} {V : List (Int × Int)} {S : List Int} (h : D12 w vL vW vS D V S) (hs : w.heap.size ≤ w'.heap.size) (k1 : ∀ q, vL.ownBlock = some q → w'.heap[q]? = w.heap[q]?) (k2 : ∀ q, vW.ownBlock = some q → w'.heap[q]? = w.heap[q]?) (k3 : ∀ q, vS.ownBlock = some q → w'.heap[q]? = w.heap[q]?) : D12 w' vL vW vS D V S :=
  ⟨h.dt.keep hs (fun q _ hq _ => k1 q hq), h.dp.keep hs k2 k3, fun q hq => Nat.lt_of_lt_of_le (h.oL q hq) hs, fun q hq => Nat.lt_of_lt_of_le (h.oW q hq) hs, fun q hq => Nat.lt_of_lt_of_le (h.oS q hq) hs, h.gv, h.nd⟩
theorem do_fin12 {Z : Nat → Prop} {s t p b1 b2 b3 n k : Nat} {now now5 : Int} {o o5 : Nat} {D D5 : List Tr} {V V5 : List (Int × Int)} {S S5 : List Int} {vL vW vS v1 v2 v3 : Value} {w w0 w5 w6 w7 W : World} (h : St12 Z s t p b1 b2 b3 n now o D V S vL vW vS k w) (hb0 : Below w.heap.size w w0) (s0 : w.heap.size + 3 ≤ w0.heap.size)
    (d5 : D12 w5 v1 v2 v3 D5 V5 S5) (hb5 : Below w0.heap.size w0 w5) (k1 : ∀ q, v1.ownBlock = some q → vL.ownBlock = some q ∨ (w0.heap.size ≤ q ∧ q < w5.heap.size)) (k2 : ∀ q, v2.ownBlock = some q → vW.ownBlock = some q ∨ (w0.heap.size ≤ q ∧ q < w5.heap.size)) (k3 : ∀ q, v3.ownBlock = some q → vS.ownBlock = some q ∨ (w0.heap.size ≤ q ∧ q < w5.heap.size))
    (hb6 : Below w5.heap.size w5 w6) (p7 : PS (fun q => Z q ∨ (w.heap.size ≤ q ∧ q < w6.heap.size)) w7 s t p b1 b2 b3 n now5 o5 D5 V5 S5) (fr7 : FrZ (fun q => Z q ∨ (w.heap.size ≤ q ∧ q < w6.heap.size)) w6 w7) (hW : Only (w.heap.size + 1 + 1) (w.heap.size + 1 + 1) w7 W)
    (ln : D5.length ≤ k + 1 ∧ V5.length ≤ k + 1 ∧ S5.length ≤ k + 1 ∧ o5 ≤ k + 1) : Do12 Z s t p b1 b2 b3 n k vL vW vS w (.returned (.tuple #[.agg (sx now5 n v1 o5 v2 v3), .bool true])) W := by
  have s5 := hb5.size
  have s6 := hb6.size
  have s7 := fr7.size
  have sW := hW.size
  have sz := h.ps.hz
  have q7 := p7.only hW (.inr ⟨by omega, by omega⟩)
  have own : ∀ (v v0 : Value), (∀ q, v.ownBlock = some q → v0.ownBlock = some q ∨ (w0.heap.size ≤ q ∧ q < w5.heap.size)) → (∀ q, v0.ownBlock = some q → Z q) → ∀ q, v.ownBlock = some q → (Z q ∨ (w.heap.size ≤ q ∧ q < W.heap.size)) ∧ q ≠ w.heap.size + 1 + 1 ∧ (Z q ∨ (w.heap.size ≤ q ∧ q < w6.heap.size)) ∧ q < w6.heap.size := fun v v0 a b q hq => by
    rcases a q hq with e | e
    · have hz := b q e
      have := sz q hz
      have := hb0.size
      exact ⟨.inl hz, by omega, .inl hz, by omega⟩
    · exact ⟨.inr ⟨by omega, by omega⟩, by omega, .inr ⟨by omega, by omega⟩, by omega⟩
  have blk : ∀ q, (Z q ∨ (w.heap.size ≤ q ∧ q < w6.heap.size)) → q ≠ w.heap.size + 1 + 1 → q < w6.heap.size → W.heap[q]? = w6.heap[q]? := fun q hz hne hl => (hW.block q (by omega) hne hne).trans (fr7.block q hl hz)
  have d6 := d5.below hb6
  refine ⟨now5, o5, D5, V5, S5, v1, v2, v3, rfl, ⟨q7.weak (fun q hq => ?_), d6.keep (by omega) (fun q hq => ?_) (fun q hq => ?_) (fun q hq => ?_), fun q hq => ?_, fun q hq => ?_, fun q hq => ?_, ln⟩, ?_, fun q hq => (k1 q hq).imp id (fun e => by omega), fun q hq => (k2 q hq).imp id (fun e => by omega), fun q hq => (k3 q hq).imp id (fun e => by omega)⟩
  · rcases hq with hq | ⟨h1, h2, h3⟩
    · exact .inl hq
    · rcases h3 with h3 | h3 | h3
      · exact (own v1 vL k1 h.o1 q h3).2.2.1
      · exact (own v2 vW k2 h.o2 q h3).2.2.1
      · exact (own v3 vS k3 h.o3 q h3).2.2.1
  · have e := own v1 vL k1 h.o1 q hq; exact blk q e.2.2.1 e.2.1 e.2.2.2
  · have e := own v2 vW k2 h.o2 q hq; exact blk q e.2.2.1 e.2.1 e.2.2.2
  · have e := own v3 vS k3 h.o3 q hq; exact blk q e.2.2.1 e.2.1 e.2.2.2
  · rcases (own v1 vL k1 h.o1 q hq).1 with e | e
    · exact .inl e
    · exact .inr ⟨e.1, e.2, .inl hq⟩
  · rcases (own v2 vW k2 h.o2 q hq).1 with e | e
    · exact .inl e
    · exact .inr ⟨e.1, e.2, .inr (.inl hq)⟩
  · rcases (own v3 vS k3 h.o3 q hq).1 with e | e
    · exact .inl e
    · exact .inr ⟨e.1, e.2, .inr (.inr hq)⟩
  · have b06 : Below w.heap.size w w6 := hb0.trans ((hb5.mono hb0.size).trans (hb6.mono (by have := hb0.size; omega)))
    refine ⟨hW.os.trans (fr7.os.trans b06.os), hW.tape.trans (fr7.tape.trans b06.tape), hW.output.trans (fr7.output.trans b06.output), by have := hb0.size; omega, fun q hk hq => ?_⟩
    have := hb0.size
    exact (blk q (.inl hq) (by omega) (by omega)).trans (b06.block q hk)
theorem only_row12 (w : World) (g : Nat) (cs : Array Value) : Only g g w (w.setRow g cs) := ⟨rfl, rfl, rfl, by rw [row_size]; exact Nat.le_refl _, fun k _ hk _ => row_other _ _ _ _ hk⟩
theorem only_set12 (w w' : World) (g i : Nat) (u : Value) (h : Only g g w w') : Only g g w (w'.setCell ⟨g, i, none⟩ u) :=
  ⟨h.os, h.tape, h.output, by simpa using h.size, fun k h1 hk h2 => (heap_setCell_other _ _ _ _ (by simpa using hk)).trans (h.block k h1 hk h2)⟩
theorem ch6_other (w : World) (g q : Nat) (now : Int) (n : Nat) (vL : Value) (o : Nat) (vW vS : Value) (h : q ≠ g) : (ch6 w g now n vL o vW vS).heap[q]? = w.heap[q]? := by
  simp only [ch6]
  rw [heap_setCell_other _ _ _ _ (by simpa using h), heap_setCell_other _ _ _ _ (by simpa using h), heap_setCell_other _ _ _ _ (by simpa using h), heap_setCell_other _ _ _ _ (by simpa using h), heap_setCell_other _ _ _ _ (by simpa using h), heap_setCell_other _ _ _ _ (by simpa using h)]
theorem ch6_cell (w : World) (g q i : Nat) (now : Int) (n : Nat) (vL : Value) (o : Nat) (vW vS : Value) (h : q ≠ g) : (ch6 w g now n vL o vW vS).cell? ⟨q, i, none⟩ = w.cell? ⟨q, i, none⟩ := World.cell?_of_block (ch6_other w g q now n vL o vW vS h)
theorem only6s (w : World) (g : Nat) (now : Int) (n : Nat) (vL : Value) (o : Nat) (vW vS : Value) : Only g g w (ch6 w g now n vL o vW vS) :=
  only_set12 _ _ _ _ _ (only_set12 _ _ _ _ _ (only_set12 _ _ _ _ _ (only_set12 _ _ _ _ _ (only_set12 _ _ _ _ _ (only_set12 _ _ _ _ _ ⟨rfl, rfl, rfl, Nat.le_refl _, fun _ _ _ _ => rfl⟩)))))
end Go.Proofs.Ytaogpodncphpjaa
