/- The walk of the statement StatusTable: the law answers true and turns nothing that was there. -/
import Derived.Test.YtpmldcnmnadgaaaDoorTable3
import Derived.Test.YtpmldcnmnadgaaaDoorLegalR
import Derived.Test.YtpmldcnmnadgaaaDoorStructs
import Derived.Deep.CutRange
import Derived.Deep.CutBlock
import Derived.Deep.QuietTactic
import Derived.BigQuiet
namespace Go.Proofs.YtpmldcnmnadgaaaDoor.statusTable
open Go.RowKit
set_option linter.unusedVariables false
set_option linter.unusedSimpArgs false

/-- All that stands: the memory, the table's variable, the law's own row, the steps. -/
structure St (w0 : World) (b g tb r K : Nat) (xs : List Int) (c : Nat) (w : World) : Prop where
  m : Mem w b g xs c
  t : w.heap[tb]? = some (.cells #[.int .i64 3, .int .i64 K] 27 (0, 0))
  row : ∃ cs, w.heap[r]? = some (.cells cs 29 (0, 0)) ∧ cs.size = K ∧ ∀ i, i < K → cs[i]? = some (.int .u64 (xs.getD (3 + i) 0))
  s : StSteps w
  B : Below w0.heap.size w0 w
  len : xs.length = K + 5
  v : ∀ i, i < K → 0 ≤ xs.getD (3 + i) 0 ∧ xs.getD (3 + i) 0 < 7
  z : ∀ i, i < 3 ∨ K + 3 ≤ i → xs.getD i 0 = 0
  hb : w0.heap.size ≤ b
  hg : w0.heap.size ≤ g
  ht : w0.heap.size ≤ tb
  hr : w0.heap.size ≤ r
  hs : 0 < w0.heap.size
  ne : tb ≠ b ∧ tb ≠ g ∧ r ≠ b ∧ r ≠ g ∧ r ≠ tb
namespace St
variable {w0 w w' : World} {b g tb r K c : Nat} {xs : List Int}
theorem kept (h : St w0 b g tb r K xs c w) {c' : Nat} (hm : Mem w' b g xs c') (ho : Only b g w w') : St w0 b g tb r K xs c' w' := by
  obtain ⟨cs, hc, h2⟩ := h.row
  have q := h.ne
  have q1 := h.hs
  have q2 := h.hb
  have q3 := h.hg
  exact ⟨hm, ho.keep h.t q.1 q.2.1, ⟨cs, ho.keep hc q.2.2.1 q.2.2.2.1, h2⟩, h.s.only ho (by omega) (by omega), h.B.trans (ho.below h.hb h.hg h.B.size), h.len, h.v, h.z, h.hb, h.hg, h.ht, h.hr, h.hs, h.ne⟩
theorem below (h : St w0 b g tb r K xs c w) (hb : Below w.heap.size w w') : St w0 b g tb r K xs c w' :=
  h.kept (h.m.below hb h.m.sb h.m.sg) (.of_below hb)
theorem rlt (h : St w0 b g tb r K xs c w) : r < w.heap.size := by
  obtain ⟨cs, hc, _⟩ := h.row
  rw [Array.getElem?_eq_some_iff] at hc; exact hc.1
theorem tlt (h : St w0 b g tb r K xs c w) : tb < w.heap.size := by
  have hc := h.t
  rw [Array.getElem?_eq_some_iff] at hc; exact hc.1
theorem cell (h : St w0 b g tb r K xs c w) (i : Nat) (hi : i < K) : w.cell? ⟨r, i, none⟩ = some (.int .u64 (xs.getD (3 + i) 0)) := by
  obtain ⟨cs, hc, _, h2⟩ := h.row
  exact cell_of_blk hc (h2 i hi)
theorem free (h : St w0 b g tb r K xs c w) (i : Nat) : w.frozen? ⟨r, i, none⟩ = false := by
  obtain ⟨cs, hc, _⟩ := h.row
  exact free_of_blk hc
theorem t0 (h : St w0 b g tb r K xs c w) : w.cell? ⟨tb, 0, none⟩ = some (.int .i64 3) := cell_of_blk h.t rfl
theorem t1 (h : St w0 b g tb r K xs c w) : w.cell? ⟨tb, 1, none⟩ = some (.int .i64 K) := cell_of_blk h.t rfl
/-- A status is another one: in the memory, and then in the law's own row. -/
theorem set (h : St w0 b g tb r K xs c w) {j : Nat} (hj : j < K) {x : Int} (h0 : 0 ≤ x) (h7 : x < 7) {c' : Nat} (hm : Mem w' b g (xs.set (3 + j) x) c') (ho : Only b g w w') :
    St w0 b g tb r K (xs.set (3 + j) x) c' (w'.setCell ⟨r, j, none⟩ (.int .u64 x)) := by
  obtain ⟨cs, hc, hcs, h2⟩ := h.row
  have q := h.ne
  have q1 := h.hs
  have q2 := h.hb
  have q3 := h.hg
  have q4 := h.hr
  have hl := h.len
  have hc' := ho.keep hc q.2.2.1 q.2.2.2.1
  have e : ∀ i, (xs.set (3 + j) x).getD i 0 = if i = 3 + j then x else xs.getD i 0 := fun i => by
    rw [List.getD_eq_getElem?_getD, List.getD_eq_getElem?_getD, List.getElem?_set]
    by_cases hh : 3 + j = i
    · subst hh; rw [if_pos rfl, if_pos rfl, if_pos (by omega)]; rfl
    · rw [if_neg hh, if_neg (fun e => hh e.symm)]
  have hB : Below w0.heap.size w0 w' := h.B.trans (ho.below h.hb h.hg h.B.size)
  refine ⟨hm.setOther (by omega) (by omega), ?_, ⟨cs.setIfInBounds j (.int .u64 x), ?_, by simpa using hcs, fun i hi => ?_⟩, ?_, hB.setCell (p := ⟨r, j, none⟩) q4 _, by simpa using hl, fun i hi => ?_, fun i hi => ?_, h.hb, h.hg, h.ht, h.hr, h.hs, h.ne⟩
  · rw [Below.heap_setCell _ _ _ _ (show tb ≠ r by omega)]; exact ho.keep h.t q.1 q.2.1
  · simp [World.setCell, Array.getElem?_modify, hc']
  · rw [e]
    by_cases hh : i = j
    · subst hh
      rw [if_pos rfl, Array.getElem?_setIfInBounds, if_pos rfl, if_pos (by omega)]
    · rw [if_neg (by omega), Array.getElem?_setIfInBounds, if_neg (fun e => hh e.symm)]
      exact h2 i hi
  · have := h.s.only ho (by omega) (by omega)
    intro k hk
    have := this k hk
    have e2 : (w'.setCell ⟨r, j, none⟩ (.int .u64 x)).heap[0]? = w'.heap[0]? := Below.heap_setCell _ _ _ _ (by simp; omega)
    simpa [World.cell?, e2] using this
  · rw [e]; split
    · exact ⟨h0, h7⟩
    · exact h.v i hi
  · rw [e, if_neg (by omega)]; exact h.z i hi
theorem drop (h : St w0 b g tb r K xs c w) : K + 5 ≤ 65536 := by have := h.m.len; have := h.len; omega
end St
/-- The box of an act. -/
def Ab (W : World) (q : Nat) (kd G A B : Int) : Prop := W.heap[q]? = some (.cells #[.int .u8 kd, .int .i64 G, .int .u64 A, .int .u64 B] 38 (0, 0))
theorem Ab.all {W : World} {q : Nat} {kd G A B : Int} (h : Ab W q kd G A B) : W.cell? ⟨q, 0, none⟩ = some (.int .u8 kd) ∧ W.cell? ⟨q, 1, none⟩ = some (.int .i64 G) ∧ W.cell? ⟨q, 2, none⟩ = some (.int .u64 A) ∧ W.cell? ⟨q, 3, none⟩ = some (.int .u64 B) ∧ W.frozen? ⟨q, 2, none⟩ = false :=
  ⟨cell_of_blk (i := 0) h rfl, cell_of_blk (i := 1) h rfl, cell_of_blk (i := 2) h rfl, cell_of_blk (i := 3) h rfl, free_of_blk h⟩
theorem Ab.keep {W W' : World} {q b g : Nat} {kd G A B : Int} (h : Ab W q kd G A B) (ho : Only b g W W') (h1 : q ≠ b) (h2 : q ≠ g) : Ab W' q kd G A B := ho.keep h h1 h2
/-- How many accesses at most. -/
def Bd (c k : Nat) : Prop := c ≤ 400 * k
def Bd2 (c k : Nat) : Prop := c ≤ 400 * k + 2
theorem Bd.lt {c k : Nat} (h : Bd c k) (hk : k ≤ 60) : c ≤ 24000 := by unfold Bd at h; omega
theorem Bd2.lt {c k : Nat} (h : Bd2 c k) (hk : k ≤ 60) : c ≤ 25000 := by unfold Bd2 at h; omega
abbrev cn3 (xs : List Int) (s : Int) (n : Nat) : Nat := cntF (fun i => xs.getD (3 + i) 0) s n
theorem St.count {w0 w : World} {b g tb r K c : Nat} {xs : List Int} (h : St w0 b g tb r K xs c w) (hc : c ≤ 900000000) (hK : K ≤ 40) (s : Int) (hs : 0 ≤ s) :
    Calls Tryd.prog 10 #[.agg #[.int .i64 3, .int .i64 K], .pointer (some ⟨b, 0, none⟩), .int .u64 s] w fun e w' => e = .returned (.int .i64 (cn3 xs s K)) ∧ St w0 b g tb r K xs (c + K) w' := by
  have := tcount_any b g xs c 3 K s w h.m (by omega) (by have := h.len; omega) (fun i hi => (h.v i hi).2) hs
  exact this.mono fun e w' ⟨he, hm, ho⟩ => ⟨he, h.kept hm ho⟩

theorem legal_c {u t : Int} (h : stLegal u t = true) (h0 : 0 ≤ u) : u ≤ 5 ∧ 1 ≤ t ∧ t ≤ 6 := by
  unfold stLegal at h
  split at h
  · simp at h; omega
  · split at h
    · simp at h; omega
    · simp at h; omega
theorem St.quiet {w0 w w' : World} {b g tb r K c : Nat} {xs : List Int} (h : St w0 b g tb r K xs c w) (hq : Quiet w w') : St w0 b g tb r K xs c w' := h.below (hq.below _)
theorem St.cellO {w0 w w' : World} {b g tb r K c : Nat} {xs : List Int} (h : St w0 b g tb r K xs c w) (ho : Only b g w w') (i : Nat) (hi : i < K) : w'.cell? ⟨r, i, none⟩ = some (.int .u64 (xs.getD (3 + i) 0)) ∧ w'.frozen? ⟨r, i, none⟩ = false := by
  obtain ⟨cs, hc, _, h2⟩ := h.row
  have hc' := ho.keep hc h.ne.2.2.1 h.ne.2.2.2.1
  exact ⟨cell_of_blk hc' (h2 i hi), free_of_blk hc'⟩
/-- A store into a block apart. -/
theorem St.setq {w0 w : World} {b g tb r K c : Nat} {xs : List Int} (h : St w0 b g tb r K xs c w) {q i : Nat} {u : Value} (h1 : q ≠ b) (h2 : q ≠ g) (h3 : q ≠ tb) (h4 : q ≠ r) (h5 : w0.heap.size ≤ q) : St w0 b g tb r K xs c (w.setCell ⟨q, i, none⟩ u) := by
  obtain ⟨cs, hc, h6⟩ := h.row
  have q1 := h.hs
  refine ⟨h.m.setOther h1 h2, ?_, ⟨cs, ?_, h6⟩, ?_, h.B.setCell (p := ⟨q, i, none⟩) h5 _, h.len, h.v, h.z, h.hb, h.hg, h.ht, h.hr, h.hs, h.ne⟩
  · rw [Below.heap_setCell _ _ _ _ (show tb ≠ q from fun e => h3 e.symm)]; exact h.t
  · rw [Below.heap_setCell _ _ _ _ (show r ≠ q from fun e => h4 e.symm)]; exact hc
  · have := h.s
    intro k hk
    have := this k hk
    have e2 : (w.setCell ⟨q, i, none⟩ u).heap[0]? = w.heap[0]? := Below.heap_setCell _ _ _ _ (by simp; omega)
    simpa [World.cell?, e2] using this
theorem Ab.setA {W : World} {q : Nat} {kd G A B : Int} (h : Ab W q kd G A B) (A' : Int) : Ab (W.setCell ⟨q, 2, none⟩ (.int .u64 A')) q kd G A' B := by
  unfold Ab at h ⊢
  simp [World.setCell, Array.getElem?_modify, h]
theorem Ab.quiet {W W' : World} {q : Nat} {kd G A B : Int} (h : Ab W q kd G A B) (hq : Quiet W W') : Ab W' q kd G A B := by unfold Ab; rw [hq.heap]; exact h

set_option maxRecDepth 100000 in
set_option maxHeartbeats 16000000 in
theorem walk (a0 : Int) (a1 : Option Addr) (len1 cap1 : Nat) (z1 : Nat → Nat → Int) (w : World) (w0 : (Lit.int .u8 a0).wf = true) (w1 : IsStructs [.u8, .i64, .u64, .u64] w a1 len1 cap1 z1) (T1 : StSteps w) :
    Calls Tryd.prog 4 #[.int .u8 a0, .slice a1 len1 cap1] w fun e w' => e = .returned (.bool true) ∧ Below w.heap.size w w' := by
  have HT := hid T1
  have hg0 := T1.lt
  have hb0 := bounds_u8 w0
  clear T1 w0
  by_cases hlen : (60 : Int) < len1
  · clear w1
    go_enter Tryd.func4, Tryd.ntmps4
    go_wp2_with fail
    refine (lives14 _ HT.out).mono ?_
    rintro e w2 ⟨rfl, rfl⟩
    go_wp2_with fail
    refine (lives14 _ HT.out).mono ?_
    rintro e w3 ⟨rfl, rfl⟩
    go_wp2
    go_ret
    exact ⟨rfl, Below.refl _ _⟩
  · have hlen' : len1 ≤ 60 := by omega
    have W0 := hid w1
    obtain ⟨K, hK⟩ : ∃ K : Nat, (K : Int) = a0 % 40 := ⟨(a0 % 40).toNat, by omega⟩
    have hK40 : K ≤ 39 := by omega
    have m1 : a0.tmod 40 = K := by rw [Int.tmod_eq_emod_of_nonneg (by omega), hK]
    have m2 : a0 % 40 = K := hK.symm
    have u1 : IntKind.u8.wrap (K : Int) = K := IntWalk.u8_in _ (by omega)
    have u2 : IntKind.i64.wrap (K : Int) = K := IntWalk.i64_in _ (by omega)
    have hmk := run_make_row' (P := Tryd.prog) 36 29 (.int .u64 0) 8 Tryd.underlying36 infoU64 rfl .i64 .i64 K (by omega) (by omega)
    have HK := hid hK
    clear w1 hK hlen
    go_enter Tryd.func4, Tryd.ntmps4
    go_wp2_with fail
    refine (lives14 _ HT.out).mono ?_
    rintro e w2 ⟨rfl, rfl⟩
    go_wp2_with fail
    refine (new_ex ((K : Int) + 5) (K + 5) (by omega) _).mono ?_
    rintro e w3 ⟨b, g, rfl, hm, hb, hg, hb3⟩
    have sb := hm.sb
    have sg := hm.sg
    have hs3 := hb3.size
    have C0 : Hid (St w b g w3.heap.size (w3.heap.size + 1) K (List.replicate (K + 5) 0) 0 ((w3.alloc (.cells #[.int .i64 3, .int .i64 K] 27)).alloc (.cells (madeCells #[Value.int .u64 0] K) 29))) := by
      have hB := (hb3.alloc hs3 (.cells #[.int .i64 3, .int .i64 K] 27)).alloc (by simp; omega) (.cells (madeCells #[Value.int .u64 0] K) 29)
      refine ⟨(hm.alloc _).alloc _, ?_, ⟨madeCells #[Value.int .u64 0] K, ?_, by rw [made_u64]; simp, fun i hi => ?_⟩, HT.out.at hB, hB, by simp, fun i hi => ?_, fun i hi => ?_, hb, hg, hs3, by omega, hg0, by omega⟩
      · rw [Below.heap_alloc _ _ _ (by simp)]; exact Deep.blk_alloc_new _ _
      · have := Deep.blk_alloc_new (w3.alloc (.cells #[.int .i64 3, .int .i64 K] 27)) (.cells (madeCells #[Value.int .u64 0] K) 29)
        simpa using this
      · rw [made_u64]; simp [List.getElem?_replicate, hi, show 3 + i < K + 5 by omega]
      · simp [List.getElem?_replicate, show 3 + i < K + 5 by omega]
      · simp only [List.getD_eq_getElem?_getD, List.getElem?_replicate]; split <;> rfl
    clear hm hb3 hb hg
    go_wp2_with fail
    go_loopw [43] (fun i wr => ∃ (k : Nat) (xs : List Int) (c : Nat), k ≤ len1 ∧ i = .int .i64 k ∧ Bd c k ∧ Hid (St w b g w3.heap.size (w3.heap.size + 1) K xs c wr))
      (fun i _ => len1 - (intOf i).toNat)
    case atStart => exact ⟨0, _, 0, by omega, rfl, Nat.zero_le _, C0⟩
    case round =>
      clear C0 sb sg hs3 hmk m1 m2 u1
      obtain ⟨tb, htb⟩ : ∃ tb, tb = w3.heap.size := ⟨_, rfl⟩
      rw [← htb] at hrel ⊢
      obtain ⟨r, hr⟩ : ∃ r, r = tb + 1 := ⟨_, rfl⟩
      rw [← hr] at hrel ⊢
      clear htb hr
      obtain ⟨k, xs, c, hk, rfl, HCK, HC⟩ := hrel
      by_cases hlt : k < len1
      · obtain ⟨bx, off, rfl, hcell⟩ := W0.out.open (by omega) (by simp)
        obtain ⟨hq0, hw0⟩ := hcell _ HC.out.B k hlt 0 .u8 rfl
        obtain ⟨hq1, hw1⟩ := hcell _ HC.out.B k hlt 1 .i64 rfl
        obtain ⟨hq2, hw2⟩ := hcell _ HC.out.B k hlt 2 .u64 rfl
        obtain ⟨hq3, hw3⟩ := hcell _ HC.out.B k hlt 3 .u64 rfl
        obtain ⟨kd, hkd⟩ : ∃ x, x = z1 k 0 := ⟨_, rfl⟩
        obtain ⟨G, hG⟩ : ∃ x, x = z1 k 1 := ⟨_, rfl⟩
        obtain ⟨A, hA⟩ : ∃ x, x = z1 k 2 := ⟨_, rfl⟩
        obtain ⟨Bv, hBv⟩ : ∃ x, x = z1 k 3 := ⟨_, rfl⟩
        rw [← hkd] at hq0 hw0
        rw [← hG] at hq1 hw1
        rw [← hA] at hq2 hw2
        rw [← hBv] at hq3 hw3
        have hk8 := bounds_u8 hw0
        have hA8 := bounds_u64 hw2
        have hB8 := bounds_u64 hw3
        have kd0 := hk8.1
        have kd1 := hk8.2
        have A0 := hA8.1
        have B0 := hB8.1
        simp only [List.length_cons, List.length_nil, Nat.reduceAdd, Nat.add_zero] at hq0 hq1 hq2 hq3
        rw [← Nat.add_assoc] at hq1 hq2 hq3
        have hba := (Below.refl wr.heap.size wr).alloc (Nat.le_refl _) (.cells #[.int .u8 kd, .int .i64 G, .int .u64 A, .int .u64 Bv] 38)
        have HCA := hid (HC.out.below hba)
        have HAB := hid (show Ab (wr.alloc (.cells #[.int .u8 kd, .int .i64 G, .int .u64 A, .int .u64 Bv] 38)) wr.heap.size kd G A Bv from Deep.blk_alloc_new _ _)
        have hsb := HC.out.m.sb
        have hsg := HC.out.m.sg
        have hsr := HC.out.rlt
        have hst := HC.out.tlt
        have HCL := hid (HCK.lt (by omega))
        have hwB := HC.out.B.size
        have HLEN := hid HC.out.len
        clear hcell hkd hG hA hBv hw0 hw1 hw2 hw3 hk8 hA8 hB8 hba HC
        have hGj : (∃ j : Nat, G = j ∧ j < K) ∨ G < 0 ∨ (K : Int) ≤ G := by
          rcases Int.lt_or_le G 0 with h | h
          · exact .inr (.inl h)
          · rcases Int.lt_or_le G K with h' | h'
            · exact .inl ⟨G.toNat, by omega, by omega⟩
            · exact .inr (.inr h')
        rcases hGj with ⟨j, rfl, hj⟩ | hG | hG
        · obtain ⟨y0, y1, y2, y3, yf⟩ := HAB.out.all
          have e0 := HCA.out.t0
          have e1 := HCA.out.t1
          go_wp2_with fail
          refine (count_any _ _ _ _ _ HCA.out.m).mono ?_
          rintro e w' ⟨rfl, rfl⟩
          generalize wr.alloc (.cells #[.int .u8 kd, .int .i64 j, .int .u64 A, .int .u64 Bv] 38) = wA at *
          go_upto_block 2 with (fail)
          go_cut [13, 43] from 44 to 179 (fun s13 s43 wc => ∃ (xs2 : List Int) (n : Nat), s13 = .int .i64 n ∧ n ≤ 1 ∧ s43 = .int .i64 k ∧ Hid (St w b g tb r K xs2 (c + n) wc))
          case first => as_aux_lemma =>
            obtain ⟨v, hv⟩ : ∃ v, v = xs.getD (3 + j) 0 := ⟨_, rfl⟩
            have HV := hid hv
            have hvv := HCA.out.v j hj
            rw [← hv] at hvv
            have v0 := hvv.1
            have v7 := hvv.2
            clear hv hvv
            have rc0 := HCA.out.cell j hj
            have rf0 := HCA.out.free j
            rw [← HV.out] at rc0
            by_cases k4 : kd % 6 = 4
            · have t4 : (kd % 6 == 4) = true := by simp [k4]
              by_cases hB7 : Bv < 7
              · have w7 : decide (Bv < 7) = true := decide_eq_true hB7
                go_wp2_with fail
                refine (tset_in b g xs c 3 K j Bv _ HCA.out.m (by have := HCL.out; omega) (by omega) (by omega) (by omega) (by have := HLEN.out; omega) B0 hB7).mono ?_
                rintro e w5 ⟨rfl, hm5, ho5⟩
                have HAB5 := hid (HAB.out.keep ho5 (by omega) (by omega))
                obtain ⟨x0, x1, x2, x3, -⟩ := HAB5.out.all
                obtain ⟨rc, rf⟩ := HCA.out.cellO ho5 j hj
                rw [show ((3 : Int) + (j : Int)).toNat = 3 + j by omega] at hm5
                have HF := hid (HCA.out.set hj B0 hB7 hm5 ho5)
                clear hm5 ho5 HCA HAB HAB5 rc0 rf0 y0 y1 y2 y3 yf e0 e1
                go_wp2
                go_meet
                exact ⟨_, 1, rfl, by omega, rfl, HF⟩
              · have w7 : decide (Bv < 7) = false := decide_eq_false hB7
                go_wp2_with fail
                refine (tset_none b g xs c 3 K j Bv _ HCA.out.m (by omega) (by omega) (by omega)).mono ?_
                rintro e w5 ⟨rfl, hb5⟩
                have HF := hid (HCA.out.below hb5)
                clear hb5 HCA HAB rc0 rf0 y0 y1 y2 y3 yf e0 e1
                go_wp2
                go_meet
                exact ⟨_, 0, rfl, by omega, rfl, HF⟩
            · have t4 : (kd % 6 == 4) = false := by simpa using k4
              by_cases k5 : kd % 6 = 5
              · have t5 : (kd % 6 == 5) = true := by simp [k5]
                go_wp2_with fail
                refine (tof_in b g xs c 3 K j v _ HCA.out.m (by have := HCL.out; omega) (by omega) (by omega) (by omega) (by have := HLEN.out; omega) (by rw [HV.out]; congr 1) v7).mono ?_
                rintro e w5 ⟨rfl, hm5, ho5⟩
                have HF := hid (HCA.out.kept hm5 ho5)
                have q1 : (v != v) = false := by simp
                clear hm5 ho5 HCA HAB rc0 rf0 y0 y1 y2 y3 yf e0 e1
                go_wp2
                go_meet
                exact ⟨_, 1, rfl, by omega, rfl, HF⟩
              · have t5 : (kd % 6 == 5) = false := by simpa using k5
                by_cases k3 : kd % 6 = 3
                · have t3 : (kd % 6 == 3) = true := by simp [k3]
                  have HCB := hid (HCA.out.setq (q := wr.heap.size) (i := 2) (u := .int .u64 v) (by omega) (by omega) (by omega) (by omega) hwB)
                  have HBB := hid (HAB.out.setA v)
                  have q1 : (v == v) = true := by simp
                  by_cases hlg : stLegal v Bv = true
                  · have LG := hid (fun w => rlegal_any v Bv w)
                    rw [hlg] at LG
                    have HLG := hid hlg
                    have hlc := legal_c hlg v0
                    have hB6 := hlc.2.2
                    have hA5 := hlc.1
                    have hB1 := hlc.2.1
                    obtain ⟨x0, x1, x2, x3, -⟩ := HBB.out.all
                    clear hlg hlc
                    go_wp2_with fail
                    refine (LG.out _).mono ?_
                    rintro e w' ⟨rfl, rfl⟩
                    clear LG
                    have rc := HCB.out.cell j hj
                    rw [← HV.out] at rc
                    go_upto_region 17 with (fail)
                    go_quiet (fail)
                    have HCQ := hid (HCB.out.quiet (w' := World.drewN _ nq) ⟨nq, rfl⟩)
                    have HAQ := hid (HBB.out.quiet (W' := World.drewN _ nq) ⟨nq, rfl⟩)
                    obtain ⟨z0, z1, z2, z3, -⟩ := HAQ.out.all
                    have f0 := HCQ.out.t0
                    have f1 := HCQ.out.t1
                    clear x0 x1 x2 x3 rc e0 e1 rc0 rf0 y0 y1 y2 y3 yf
                    go_wp2_with fail
                    refine (tmove_yes b g xs c 3 K j v Bv _ HCQ.out.s HCQ.out.m (by have := HCL.out; omega) (by omega) (by omega) (by omega) (by have := HLEN.out; omega) v0 B0 HLG.out (by omega) hB6 (by rw [HV.out]; congr 1)).mono ?_
                    rintro e w5 ⟨rfl, hm5, ho5⟩
                    have HAB5 := hid (HAQ.out.keep ho5 (by omega) (by omega))
                    obtain ⟨r0, r1, r2, r3, -⟩ := HAB5.out.all
                    obtain ⟨rc, rf⟩ := HCQ.out.cellO ho5 j hj
                    rw [show ((3 : Int) + (j : Int)).toNat = 3 + j by omega] at hm5
                    have HF := hid (HCQ.out.set hj B0 (by omega) hm5 ho5)
                    clear hm5 ho5 HCA HAB HCQ HAQ HAB5
                    go_wp2
                    go_meet
                    exact ⟨_, 1, rfl, by omega, rfl, HF⟩
                  · have hlf : stLegal v Bv = false := by simpa using hlg
                    have LG := hid (fun w => rlegal_any v Bv w)
                    rw [hlf] at LG
                    have HLG := hid hlf
                    obtain ⟨x0, x1, x2, x3, -⟩ := HBB.out.all
                    clear hlg hlf
                    go_wp2_with fail
                    refine (LG.out _).mono ?_
                    rintro e w' ⟨rfl, rfl⟩
                    clear LG
                    go_upto_region 17 with (fail)
                    go_quiet (fail)
                    have HCQ := hid (HCB.out.quiet (w' := World.drewN _ nq) ⟨nq, rfl⟩)
                    have HAQ := hid (HBB.out.quiet (W' := World.drewN _ nq) ⟨nq, rfl⟩)
                    obtain ⟨z0, z1, z2, z3, -⟩ := HAQ.out.all
                    have f0 := HCQ.out.t0
                    have f1 := HCQ.out.t1
                    clear x0 x1 x2 x3 e0 e1 rc0 rf0 y0 y1 y2 y3 yf
                    go_wp2_with fail
                    refine (tmove_illegal b g xs c 3 K j v Bv _ HCQ.out.s HCQ.out.m (by have := HCL.out; omega) (by omega) (by omega) (by omega) (by have := HLEN.out; omega) v0 B0 HLG.out).mono ?_
                    rintro e w5 ⟨rfl, hm5, ho5⟩
                    have HF := hid (HCQ.out.kept hm5 ho5)
                    clear hm5 ho5 HCA HAB HCQ HAQ
                    go_wp2
                    go_meet
                    exact ⟨_, 0, rfl, by omega, rfl, HF⟩
                · have t3 : (kd % 6 == 3) = false := by simpa using k3
                  by_cases he : v = A
                  · subst he
                    have q1 : (v == v) = true := by simp
                    by_cases hlg : stLegal v Bv = true
                    · have LG := hid (fun w => rlegal_any v Bv w)
                      rw [hlg] at LG
                      have HLG := hid hlg
                      have hlc := legal_c hlg v0
                      have hB6 := hlc.2.2
                      have hA5 := hlc.1
                      have hB1 := hlc.2.1
                      obtain ⟨x0, x1, x2, x3, -⟩ := HAB.out.all
                      clear hlg hlc
                      go_wp2_with fail
                      refine (LG.out _).mono ?_
                      rintro e w' ⟨rfl, rfl⟩
                      clear LG
                      have rc := HCA.out.cell j hj
                      rw [← HV.out] at rc
                      go_upto_region 17 with (fail)
                      go_quiet (fail)
                      have HCQ := hid (HCA.out.quiet (w' := World.drewN _ nq) ⟨nq, rfl⟩)
                      have HAQ := hid (HAB.out.quiet (W' := World.drewN _ nq) ⟨nq, rfl⟩)
                      obtain ⟨z0, z1, z2, z3, -⟩ := HAQ.out.all
                      have f0 := HCQ.out.t0
                      have f1 := HCQ.out.t1
                      clear x0 x1 x2 x3 rc e0 e1 rc0 rf0 y0 y1 y2 y3 yf
                      go_wp2_with fail
                      refine (tmove_yes b g xs c 3 K j v Bv _ HCQ.out.s HCQ.out.m (by have := HCL.out; omega) (by omega) (by omega) (by omega) (by have := HLEN.out; omega) v0 B0 HLG.out (by omega) hB6 (by rw [HV.out]; congr 1)).mono ?_
                      rintro e w5 ⟨rfl, hm5, ho5⟩
                      have HAB5 := hid (HAQ.out.keep ho5 (by omega) (by omega))
                      obtain ⟨r0, r1, r2, r3, -⟩ := HAB5.out.all
                      obtain ⟨rc, rf⟩ := HCQ.out.cellO ho5 j hj
                      rw [show ((3 : Int) + (j : Int)).toNat = 3 + j by omega] at hm5
                      have HF := hid (HCQ.out.set hj B0 (by omega) hm5 ho5)
                      clear hm5 ho5 HCA HAB HCQ HAQ HAB5
                      go_wp2
                      go_meet
                      exact ⟨_, 1, rfl, by omega, rfl, HF⟩
                    · have hlf : stLegal v Bv = false := by simpa using hlg
                      have LG := hid (fun w => rlegal_any v Bv w)
                      rw [hlf] at LG
                      have HLG := hid hlf
                      obtain ⟨x0, x1, x2, x3, -⟩ := HAB.out.all
                      clear hlg hlf
                      go_wp2_with fail
                      refine (LG.out _).mono ?_
                      rintro e w' ⟨rfl, rfl⟩
                      clear LG
                      go_upto_region 17 with (fail)
                      go_quiet (fail)
                      have HCQ := hid (HCA.out.quiet (w' := World.drewN _ nq) ⟨nq, rfl⟩)
                      have HAQ := hid (HAB.out.quiet (W' := World.drewN _ nq) ⟨nq, rfl⟩)
                      obtain ⟨z0, z1, z2, z3, -⟩ := HAQ.out.all
                      have f0 := HCQ.out.t0
                      have f1 := HCQ.out.t1
                      clear x0 x1 x2 x3 e0 e1 rc0 rf0 y0 y1 y2 y3 yf
                      go_wp2_with fail
                      refine (tmove_illegal b g xs c 3 K j v Bv _ HCQ.out.s HCQ.out.m (by have := HCL.out; omega) (by omega) (by omega) (by omega) (by have := HLEN.out; omega) v0 B0 HLG.out).mono ?_
                      rintro e w5 ⟨rfl, hm5, ho5⟩
                      have HF := hid (HCQ.out.kept hm5 ho5)
                      clear hm5 ho5 HCA HAB HCQ HAQ
                      go_wp2
                      go_meet
                      exact ⟨_, 0, rfl, by omega, rfl, HF⟩
                  · have q1 : (v == A) = false := beq_eq_false_iff_ne.2 he
                    by_cases hlg : stLegal A Bv = true
                    · have LG := hid (fun w => rlegal_any A Bv w)
                      rw [hlg] at LG
                      have HLG := hid hlg
                      have hlc := legal_c hlg A0
                      have hB6 := hlc.2.2
                      have hA5 := hlc.1
                      have hB1 := hlc.2.1
                      obtain ⟨x0, x1, x2, x3, -⟩ := HAB.out.all
                      clear hlg hlc
                      go_wp2_with fail
                      refine (LG.out _).mono ?_
                      rintro e w' ⟨rfl, rfl⟩
                      clear LG
                      have rc := HCA.out.cell j hj
                      rw [← HV.out] at rc
                      go_upto_region 17 with (fail)
                      go_quiet (fail)
                      have HCQ := hid (HCA.out.quiet (w' := World.drewN _ nq) ⟨nq, rfl⟩)
                      have HAQ := hid (HAB.out.quiet (W' := World.drewN _ nq) ⟨nq, rfl⟩)
                      obtain ⟨z0, z1, z2, z3, -⟩ := HAQ.out.all
                      have f0 := HCQ.out.t0
                      have f1 := HCQ.out.t1
                      clear x0 x1 x2 x3 rc e0 e1 rc0 rf0 y0 y1 y2 y3 yf
                      go_wp2_with fail
                      refine (tmove_miss b g xs c 3 K j A Bv _ HCQ.out.s HCQ.out.m (by have := HCL.out; omega) (by omega) (by omega) (by omega) (by have := HLEN.out; omega) A0 B0 HLG.out (by omega) hB6 (by rw [show ((3 : Int) + (j : Int)).toNat = 3 + j by omega, ← HV.out]; exact he)).mono ?_
                      rintro e w5 ⟨rfl, hm5, ho5⟩
                      have HF := hid (HCQ.out.kept hm5 ho5)
                      clear hm5 ho5 HCA HAB HCQ HAQ
                      go_wp2
                      go_meet
                      exact ⟨_, 1, rfl, by omega, rfl, HF⟩
                    · have hlf : stLegal A Bv = false := by simpa using hlg
                      have LG := hid (fun w => rlegal_any A Bv w)
                      rw [hlf] at LG
                      have HLG := hid hlf
                      obtain ⟨x0, x1, x2, x3, -⟩ := HAB.out.all
                      clear hlg hlf
                      go_wp2_with fail
                      refine (LG.out _).mono ?_
                      rintro e w' ⟨rfl, rfl⟩
                      clear LG
                      go_upto_region 17 with (fail)
                      go_quiet (fail)
                      have HCQ := hid (HCA.out.quiet (w' := World.drewN _ nq) ⟨nq, rfl⟩)
                      have HAQ := hid (HAB.out.quiet (W' := World.drewN _ nq) ⟨nq, rfl⟩)
                      obtain ⟨z0, z1, z2, z3, -⟩ := HAQ.out.all
                      have f0 := HCQ.out.t0
                      have f1 := HCQ.out.t1
                      clear x0 x1 x2 x3 e0 e1 rc0 rf0 y0 y1 y2 y3 yf
                      go_wp2_with fail
                      refine (tmove_illegal b g xs c 3 K j A Bv _ HCQ.out.s HCQ.out.m (by have := HCL.out; omega) (by omega) (by omega) (by omega) (by have := HLEN.out; omega) A0 B0 HLG.out).mono ?_
                      rintro e w5 ⟨rfl, hm5, ho5⟩
                      have HF := hid (HCQ.out.kept hm5 ho5)
                      clear hm5 ho5 HCA HAB HCQ HAQ
                      go_wp2
                      go_meet
                      exact ⟨_, 0, rfl, by omega, rfl, HF⟩

          case rest => as_aux_lemma =>
            obtain ⟨xs2, n, rfl, hn, rfl, HC2⟩ := hcut
            obtain ⟨c2, hc2⟩ : ∃ c2, c2 = c + n := ⟨_, rfl⟩
            rw [← hc2] at HC2
            have HB2 := hid (show Bd2 c2 k by have := HCK; unfold Bd at this; unfold Bd2; omega)
            have hwc : IntKind.i64.wrap ((c : Int) + n) = c2 := by have := HCL.out; rw [hc2, IntWalk.i64_in _ (by omega)]; omega
            have t1 : ((c2 : Int) != c2) = false := by simp
            clear hn hc2 HCL HLEN HCK
            go_wp2_with fail
            refine (count_any _ _ _ _ _ HC2.out.m).mono ?_
            rintro e w' ⟨rfl, rfl⟩
            go_wp2_with fail
            clear hwc t1
            go_loopw [157] (fun s wq => ∃ sN : Nat, sN ≤ 8 ∧ s = .int .u64 sN ∧ Hid (St w b g tb r K xs2 (c2 + K * sN) wq))
              (fun s _ => 8 - (intOf s).toNat)
            case atStart => exact ⟨0, by omega, rfl, hid (by simpa using HC2.out)⟩
            case round =>
              clear HC2
              obtain ⟨s, hs, rfl, HQ⟩ := hrel
              obtain ⟨wo, rfl⟩ : ∃ wo : World, wo = wr := ⟨_, rfl⟩
              by_cases hs8 : s < 8
              · have hq1 : K * s ≤ 312 := by have : K * s ≤ 39 * 8 := Nat.mul_le_mul hK40 hs; omega
                have HCT := hid (HQ.out.count (by have := HB2.out.lt (by omega); omega) (by omega) (s : Int) (by omega))
                have e0 := HQ.out.t0
                have e1 := HQ.out.t1
                have hsu : (s : Int) < 8 := by omega
                have hws : IntKind.u64.wrap ((s : Int) + 1) = (s : Int) + 1 := IntWalk.u64_in _ (by omega)
                go_wp2_with fail
                go_loop [19, 162] (fun ct t => ∃ tN : Nat, tN ≤ K ∧ t = .int .i64 tN ∧ ct = .int .i64 (cn3 xs2 s tN)) (fun _ t => K - (intOf t).toNat)
                case atStart => exact ⟨0, Nat.zero_le _, rfl, rfl⟩
                case round =>
                  obtain ⟨tN, htN, rfl, rfl⟩ := hrel
                  have hcl := cntF_le (fun i => xs2.getD (3 + i) 0) s tN
                  by_cases htl : tN < K
                  · have hcc := HQ.out.cell tN htl
                    have hs1 : cn3 xs2 s (tN + 1) = cn3 xs2 s tN + if xs2.getD (3 + tN) 0 = s then 1 else 0 := rfl
                    obtain ⟨v, hv⟩ : ∃ v, v = xs2.getD (3 + tN) 0 := ⟨_, rfl⟩
                    obtain ⟨m, hm⟩ : ∃ m, m = cn3 xs2 s tN := ⟨_, rfl⟩
                    rw [← hv] at hcc hs1
                    rw [← hm] at hs1 ⊢
                    have hcl' : m ≤ tN := by rw [hm]; exact hcl
                    have HS1 := hid hs1
                    have hmw : IntKind.i64.wrap ((m : Int) + 1) = (m : Int) + 1 := IntWalk.i64_in _ (by omega)
                    clear hv hm hs1 hcl e0 e1 hsu hws
                    by_cases he : v = (s : Int)
                    · have hq : (v == (s : Int)) = true := by simp [he]
                      have HR := hid (show ((m : Int) + 1) = ((cn3 xs2 s (tN + 1) : Nat) : Int) by rw [HS1.out, if_pos he]; omega)
                      have hq2 : ((s : Int) == (s : Int)) = true := by simp
                      subst he
                      go_wp2
                      go_round
                      case rel => exact ⟨tN + 1, by omega, by go_num, by rw [← HR.out]⟩
                      case measure => simp [intOf]; omega
                    · have hq : (v == (s : Int)) = false := beq_eq_false_iff_ne.2 he
                      have HR := hid (show (m : Int) = ((cn3 xs2 s (tN + 1) : Nat) : Int) by rw [HS1.out, if_neg he]; omega)
                      go_wp2
                      go_round
                      case rel => exact ⟨tN + 1, by omega, by go_num, by rw [← HR.out]⟩
                      case measure => simp [intOf]; omega
                  · obtain rfl : tN = K := by omega
                    obtain ⟨ct, hct⟩ : ∃ ct, ct = cn3 xs2 s tN := ⟨_, rfl⟩
                    rw [← hct] at HCT ⊢
                    have tt : ((ct : Int) != ct) = false := by simp
                    clear hct hcl
                    go_wp2_with fail
                    refine HCT.out.mono ?_
                    rintro e w8 ⟨rfl, hc8⟩
                    have HC8 := hid (show St w b g tb r tN xs2 (c2 + tN * (s + 1)) w8 by rw [Nat.mul_succ, ← Nat.add_assoc]; exact hc8)
                    clear hc8 HCT e0 e1 HQ
                    go_wp2
                    go_roundw
                    case rel => exact ⟨s + 1, by omega, by go_num, HC8⟩
                    case measure => simp [intOf]; omega
              · obtain rfl : s = 8 := by omega
                obtain ⟨c9, hc9⟩ : ∃ c9, c9 = c2 + K * 8 := ⟨_, rfl⟩
                rw [← hc9] at HQ
                have HB9 := hid (show Bd c9 (k + 1) by have := HB2.out; unfold Bd2 at this; unfold Bd; omega)
                clear hc9
                go_wp2
                go_roundw
                case rel => exact ⟨k + 1, xs2, c9, by omega, by go_num, HB9.out, HQ⟩
                case measure => simp [intOf]; omega
        · have HGO := hid (show G < 0 ∨ (K : Int) ≤ G from .inl hG)
          obtain ⟨y0, y1, y2, y3, yf⟩ := HAB.out.all
          have e0 := HCA.out.t0
          have e1 := HCA.out.t1
          go_wp2_with fail
          refine (count_any _ _ _ _ _ HCA.out.m).mono ?_
          rintro e w' ⟨rfl, rfl⟩
          generalize wr.alloc (.cells #[.int .u8 kd, .int .i64 G, .int .u64 A, .int .u64 Bv] 38) = wA at *
          go_upto_block 2 with (fail)
          go_cut [13, 43] from 44 to 179 (fun s13 s43 wc => ∃ (xs2 : List Int) (n : Nat), s13 = .int .i64 n ∧ n ≤ 1 ∧ s43 = .int .i64 k ∧ Hid (St w b g tb r K xs2 (c + n) wc))
          case first => as_aux_lemma =>
            by_cases k4 : kd % 6 = 4
            · have t4 : (kd % 6 == 4) = true := by simp [k4]
              go_wp2_with fail
              refine (tset_out b g xs c 3 K G Bv _ HCA.out.m HGO.out).mono ?_
              rintro e w5 ⟨rfl, hb5⟩
              have HF := hid (HCA.out.below hb5)
              clear hb5 HCA HAB y0 y1 y2 y3 yf e0 e1
              go_wp2
              go_meet
              exact ⟨_, 0, rfl, by omega, rfl, HF⟩
            · have t4 : (kd % 6 == 4) = false := by simpa using k4
              by_cases k5 : kd % 6 = 5
              · have t5 : (kd % 6 == 5) = true := by simp [k5]
                go_wp2_with fail
                refine (tof_out b g xs c 3 K G _ HCA.out.m HGO.out).mono ?_
                rintro e w5 ⟨rfl, hb5⟩
                have HF := hid (HCA.out.below hb5)
                clear hb5 HCA HAB y0 y1 y2 y3 yf e0 e1
                go_wp2
                go_meet
                exact ⟨_, 0, rfl, by omega, rfl, HF⟩
              · have t5 : (kd % 6 == 5) = false := by simpa using k5
                obtain ⟨t3, ht3⟩ : ∃ t, (kd % 6 == 3) = t := ⟨_, rfl⟩
                cases t3
                all_goals
                  go_upto_region 17 with (fail)
                  go_quiet (fail)
                  have HCQ := hid (HCA.out.quiet (w' := World.drewN _ nq) ⟨nq, rfl⟩)
                  have HAQ := hid (HAB.out.quiet (W' := World.drewN _ nq) ⟨nq, rfl⟩)
                  obtain ⟨z0, z1, z2, z3, -⟩ := HAQ.out.all
                  have f0 := HCQ.out.t0
                  have f1 := HCQ.out.t1
                  clear y0 y1 y2 y3 yf e0 e1
                  go_wp2_with fail
                  refine (tmove_out b g xs c 3 K G A Bv _ HCQ.out.m HGO.out).mono ?_
                  rintro e w5 ⟨rfl, hb5⟩
                  have HF := hid (HCQ.out.below hb5)
                  clear hb5 HCA HAB HCQ HAQ z0 z1 z2 z3 f0 f1
                  go_wp2
                  go_meet
                  exact ⟨_, 0, rfl, by omega, rfl, HF⟩

          case rest => as_aux_lemma =>
            obtain ⟨xs2, n, rfl, hn, rfl, HC2⟩ := hcut
            obtain ⟨c2, hc2⟩ : ∃ c2, c2 = c + n := ⟨_, rfl⟩
            rw [← hc2] at HC2
            have HB2 := hid (show Bd2 c2 k by have := HCK; unfold Bd at this; unfold Bd2; omega)
            have hwc : IntKind.i64.wrap ((c : Int) + n) = c2 := by have := HCL.out; rw [hc2, IntWalk.i64_in _ (by omega)]; omega
            have t1 : ((c2 : Int) != c2) = false := by simp
            clear hn hc2 HCL HLEN HCK
            go_wp2_with fail
            refine (count_any _ _ _ _ _ HC2.out.m).mono ?_
            rintro e w' ⟨rfl, rfl⟩
            go_wp2_with fail
            clear hwc t1
            go_loopw [157] (fun s wq => ∃ sN : Nat, sN ≤ 8 ∧ s = .int .u64 sN ∧ Hid (St w b g tb r K xs2 (c2 + K * sN) wq))
              (fun s _ => 8 - (intOf s).toNat)
            case atStart => exact ⟨0, by omega, rfl, hid (by simpa using HC2.out)⟩
            case round =>
              clear HC2
              obtain ⟨s, hs, rfl, HQ⟩ := hrel
              obtain ⟨wo, rfl⟩ : ∃ wo : World, wo = wr := ⟨_, rfl⟩
              by_cases hs8 : s < 8
              · have hq1 : K * s ≤ 312 := by have : K * s ≤ 39 * 8 := Nat.mul_le_mul hK40 hs; omega
                have HCT := hid (HQ.out.count (by have := HB2.out.lt (by omega); omega) (by omega) (s : Int) (by omega))
                have e0 := HQ.out.t0
                have e1 := HQ.out.t1
                have hsu : (s : Int) < 8 := by omega
                have hws : IntKind.u64.wrap ((s : Int) + 1) = (s : Int) + 1 := IntWalk.u64_in _ (by omega)
                go_wp2_with fail
                go_loop [19, 162] (fun ct t => ∃ tN : Nat, tN ≤ K ∧ t = .int .i64 tN ∧ ct = .int .i64 (cn3 xs2 s tN)) (fun _ t => K - (intOf t).toNat)
                case atStart => exact ⟨0, Nat.zero_le _, rfl, rfl⟩
                case round =>
                  obtain ⟨tN, htN, rfl, rfl⟩ := hrel
                  have hcl := cntF_le (fun i => xs2.getD (3 + i) 0) s tN
                  by_cases htl : tN < K
                  · have hcc := HQ.out.cell tN htl
                    have hs1 : cn3 xs2 s (tN + 1) = cn3 xs2 s tN + if xs2.getD (3 + tN) 0 = s then 1 else 0 := rfl
                    obtain ⟨v, hv⟩ : ∃ v, v = xs2.getD (3 + tN) 0 := ⟨_, rfl⟩
                    obtain ⟨m, hm⟩ : ∃ m, m = cn3 xs2 s tN := ⟨_, rfl⟩
                    rw [← hv] at hcc hs1
                    rw [← hm] at hs1 ⊢
                    have hcl' : m ≤ tN := by rw [hm]; exact hcl
                    have HS1 := hid hs1
                    have hmw : IntKind.i64.wrap ((m : Int) + 1) = (m : Int) + 1 := IntWalk.i64_in _ (by omega)
                    clear hv hm hs1 hcl e0 e1 hsu hws
                    by_cases he : v = (s : Int)
                    · have hq : (v == (s : Int)) = true := by simp [he]
                      have HR := hid (show ((m : Int) + 1) = ((cn3 xs2 s (tN + 1) : Nat) : Int) by rw [HS1.out, if_pos he]; omega)
                      have hq2 : ((s : Int) == (s : Int)) = true := by simp
                      subst he
                      go_wp2
                      go_round
                      case rel => exact ⟨tN + 1, by omega, by go_num, by rw [← HR.out]⟩
                      case measure => simp [intOf]; omega
                    · have hq : (v == (s : Int)) = false := beq_eq_false_iff_ne.2 he
                      have HR := hid (show (m : Int) = ((cn3 xs2 s (tN + 1) : Nat) : Int) by rw [HS1.out, if_neg he]; omega)
                      go_wp2
                      go_round
                      case rel => exact ⟨tN + 1, by omega, by go_num, by rw [← HR.out]⟩
                      case measure => simp [intOf]; omega
                  · obtain rfl : tN = K := by omega
                    obtain ⟨ct, hct⟩ : ∃ ct, ct = cn3 xs2 s tN := ⟨_, rfl⟩
                    rw [← hct] at HCT ⊢
                    have tt : ((ct : Int) != ct) = false := by simp
                    clear hct hcl
                    go_wp2_with fail
                    refine HCT.out.mono ?_
                    rintro e w8 ⟨rfl, hc8⟩
                    have HC8 := hid (show St w b g tb r tN xs2 (c2 + tN * (s + 1)) w8 by rw [Nat.mul_succ, ← Nat.add_assoc]; exact hc8)
                    clear hc8 HCT e0 e1 HQ
                    go_wp2
                    go_roundw
                    case rel => exact ⟨s + 1, by omega, by go_num, HC8⟩
                    case measure => simp [intOf]; omega
              · obtain rfl : s = 8 := by omega
                obtain ⟨c9, hc9⟩ : ∃ c9, c9 = c2 + K * 8 := ⟨_, rfl⟩
                rw [← hc9] at HQ
                have HB9 := hid (show Bd c9 (k + 1) by have := HB2.out; unfold Bd2 at this; unfold Bd; omega)
                clear hc9
                go_wp2
                go_roundw
                case rel => exact ⟨k + 1, xs2, c9, by omega, by go_num, HB9.out, HQ⟩
                case measure => simp [intOf]; omega
        · have HGO := hid (show G < 0 ∨ (K : Int) ≤ G from .inr hG)
          have hd : decide (G < (K : Int)) = false := decide_eq_false (by omega)
          obtain ⟨y0, y1, y2, y3, yf⟩ := HAB.out.all
          have e0 := HCA.out.t0
          have e1 := HCA.out.t1
          go_wp2_with fail
          refine (count_any _ _ _ _ _ HCA.out.m).mono ?_
          rintro e w' ⟨rfl, rfl⟩
          generalize wr.alloc (.cells #[.int .u8 kd, .int .i64 G, .int .u64 A, .int .u64 Bv] 38) = wA at *
          go_upto_block 2 with (fail)
          go_cut [13, 43] from 44 to 179 (fun s13 s43 wc => ∃ (xs2 : List Int) (n : Nat), s13 = .int .i64 n ∧ n ≤ 1 ∧ s43 = .int .i64 k ∧ Hid (St w b g tb r K xs2 (c + n) wc))
          case first => as_aux_lemma =>
            by_cases k4 : kd % 6 = 4
            · have t4 : (kd % 6 == 4) = true := by simp [k4]
              go_wp2_with fail
              refine (tset_out b g xs c 3 K G Bv _ HCA.out.m HGO.out).mono ?_
              rintro e w5 ⟨rfl, hb5⟩
              have HF := hid (HCA.out.below hb5)
              clear hb5 HCA HAB y0 y1 y2 y3 yf e0 e1
              go_wp2
              go_meet
              exact ⟨_, 0, rfl, by omega, rfl, HF⟩
            · have t4 : (kd % 6 == 4) = false := by simpa using k4
              by_cases k5 : kd % 6 = 5
              · have t5 : (kd % 6 == 5) = true := by simp [k5]
                go_wp2_with fail
                refine (tof_out b g xs c 3 K G _ HCA.out.m HGO.out).mono ?_
                rintro e w5 ⟨rfl, hb5⟩
                have HF := hid (HCA.out.below hb5)
                clear hb5 HCA HAB y0 y1 y2 y3 yf e0 e1
                go_wp2
                go_meet
                exact ⟨_, 0, rfl, by omega, rfl, HF⟩
              · have t5 : (kd % 6 == 5) = false := by simpa using k5
                obtain ⟨t3, ht3⟩ : ∃ t, (kd % 6 == 3) = t := ⟨_, rfl⟩
                cases t3
                all_goals
                  go_upto_region 17 with (fail)
                  go_quiet (fail)
                  have HCQ := hid (HCA.out.quiet (w' := World.drewN _ nq) ⟨nq, rfl⟩)
                  have HAQ := hid (HAB.out.quiet (W' := World.drewN _ nq) ⟨nq, rfl⟩)
                  obtain ⟨z0, z1, z2, z3, -⟩ := HAQ.out.all
                  have f0 := HCQ.out.t0
                  have f1 := HCQ.out.t1
                  clear y0 y1 y2 y3 yf e0 e1
                  go_wp2_with fail
                  refine (tmove_out b g xs c 3 K G A Bv _ HCQ.out.m HGO.out).mono ?_
                  rintro e w5 ⟨rfl, hb5⟩
                  have HF := hid (HCQ.out.below hb5)
                  clear hb5 HCA HAB HCQ HAQ z0 z1 z2 z3 f0 f1
                  go_wp2
                  go_meet
                  exact ⟨_, 0, rfl, by omega, rfl, HF⟩

          case rest => as_aux_lemma =>
            obtain ⟨xs2, n, rfl, hn, rfl, HC2⟩ := hcut
            obtain ⟨c2, hc2⟩ : ∃ c2, c2 = c + n := ⟨_, rfl⟩
            rw [← hc2] at HC2
            have HB2 := hid (show Bd2 c2 k by have := HCK; unfold Bd at this; unfold Bd2; omega)
            have hwc : IntKind.i64.wrap ((c : Int) + n) = c2 := by have := HCL.out; rw [hc2, IntWalk.i64_in _ (by omega)]; omega
            have t1 : ((c2 : Int) != c2) = false := by simp
            clear hn hc2 HCL HLEN HCK
            go_wp2_with fail
            refine (count_any _ _ _ _ _ HC2.out.m).mono ?_
            rintro e w' ⟨rfl, rfl⟩
            go_wp2_with fail
            clear hwc t1
            go_loopw [157] (fun s wq => ∃ sN : Nat, sN ≤ 8 ∧ s = .int .u64 sN ∧ Hid (St w b g tb r K xs2 (c2 + K * sN) wq))
              (fun s _ => 8 - (intOf s).toNat)
            case atStart => exact ⟨0, by omega, rfl, hid (by simpa using HC2.out)⟩
            case round =>
              clear HC2
              obtain ⟨s, hs, rfl, HQ⟩ := hrel
              obtain ⟨wo, rfl⟩ : ∃ wo : World, wo = wr := ⟨_, rfl⟩
              by_cases hs8 : s < 8
              · have hq1 : K * s ≤ 312 := by have : K * s ≤ 39 * 8 := Nat.mul_le_mul hK40 hs; omega
                have HCT := hid (HQ.out.count (by have := HB2.out.lt (by omega); omega) (by omega) (s : Int) (by omega))
                have e0 := HQ.out.t0
                have e1 := HQ.out.t1
                have hsu : (s : Int) < 8 := by omega
                have hws : IntKind.u64.wrap ((s : Int) + 1) = (s : Int) + 1 := IntWalk.u64_in _ (by omega)
                go_wp2_with fail
                go_loop [19, 162] (fun ct t => ∃ tN : Nat, tN ≤ K ∧ t = .int .i64 tN ∧ ct = .int .i64 (cn3 xs2 s tN)) (fun _ t => K - (intOf t).toNat)
                case atStart => exact ⟨0, Nat.zero_le _, rfl, rfl⟩
                case round =>
                  obtain ⟨tN, htN, rfl, rfl⟩ := hrel
                  have hcl := cntF_le (fun i => xs2.getD (3 + i) 0) s tN
                  by_cases htl : tN < K
                  · have hcc := HQ.out.cell tN htl
                    have hs1 : cn3 xs2 s (tN + 1) = cn3 xs2 s tN + if xs2.getD (3 + tN) 0 = s then 1 else 0 := rfl
                    obtain ⟨v, hv⟩ : ∃ v, v = xs2.getD (3 + tN) 0 := ⟨_, rfl⟩
                    obtain ⟨m, hm⟩ : ∃ m, m = cn3 xs2 s tN := ⟨_, rfl⟩
                    rw [← hv] at hcc hs1
                    rw [← hm] at hs1 ⊢
                    have hcl' : m ≤ tN := by rw [hm]; exact hcl
                    have HS1 := hid hs1
                    have hmw : IntKind.i64.wrap ((m : Int) + 1) = (m : Int) + 1 := IntWalk.i64_in _ (by omega)
                    clear hv hm hs1 hcl e0 e1 hsu hws
                    by_cases he : v = (s : Int)
                    · have hq : (v == (s : Int)) = true := by simp [he]
                      have HR := hid (show ((m : Int) + 1) = ((cn3 xs2 s (tN + 1) : Nat) : Int) by rw [HS1.out, if_pos he]; omega)
                      have hq2 : ((s : Int) == (s : Int)) = true := by simp
                      subst he
                      go_wp2
                      go_round
                      case rel => exact ⟨tN + 1, by omega, by go_num, by rw [← HR.out]⟩
                      case measure => simp [intOf]; omega
                    · have hq : (v == (s : Int)) = false := beq_eq_false_iff_ne.2 he
                      have HR := hid (show (m : Int) = ((cn3 xs2 s (tN + 1) : Nat) : Int) by rw [HS1.out, if_neg he]; omega)
                      go_wp2
                      go_round
                      case rel => exact ⟨tN + 1, by omega, by go_num, by rw [← HR.out]⟩
                      case measure => simp [intOf]; omega
                  · obtain rfl : tN = K := by omega
                    obtain ⟨ct, hct⟩ : ∃ ct, ct = cn3 xs2 s tN := ⟨_, rfl⟩
                    rw [← hct] at HCT ⊢
                    have tt : ((ct : Int) != ct) = false := by simp
                    clear hct hcl
                    go_wp2_with fail
                    refine HCT.out.mono ?_
                    rintro e w8 ⟨rfl, hc8⟩
                    have HC8 := hid (show St w b g tb r tN xs2 (c2 + tN * (s + 1)) w8 by rw [Nat.mul_succ, ← Nat.add_assoc]; exact hc8)
                    clear hc8 HCT e0 e1 HQ
                    go_wp2
                    go_roundw
                    case rel => exact ⟨s + 1, by omega, by go_num, HC8⟩
                    case measure => simp [intOf]; omega
              · obtain rfl : s = 8 := by omega
                obtain ⟨c9, hc9⟩ : ∃ c9, c9 = c2 + K * 8 := ⟨_, rfl⟩
                rw [← hc9] at HQ
                have HB9 := hid (show Bd c9 (k + 1) by have := HB2.out; unfold Bd2 at this; unfold Bd; omega)
                clear hc9
                go_wp2
                go_roundw
                case rel => exact ⟨k + 1, xs2, c9, by omega, by go_num, HB9.out, HQ⟩
                case measure => simp [intOf]; omega
      · obtain rfl : k = len1 := by omega
        have HCL := hid (HCK.lt (by omega))
        have t2 : ((0 : Int) != 0) = false := rfl
        have t3 : ((0 : Int) == 0) = true := rfl
        go_wp2_with fail
        go_loopw [180] (fun i wq => ∃ n : Nat, n ≤ 3 ∧ i = .int .i64 n ∧ Hid (St w b g tb r K xs (c + n) wq)) (fun i _ => 3 - (intOf i).toNat)
        case atStart => exact ⟨0, by omega, rfl, HC⟩
        case round =>
          clear HC
          obtain ⟨n, hn, rfl, HQ⟩ := hrel
          obtain ⟨wo, rfl⟩ : ∃ wo : World, wo = wr := ⟨_, rfl⟩
          by_cases hn3 : n < 3
          · have hnu : (n : Int) < 3 := by omega
            go_wp2_with fail
            refine (load_in b g xs (c + n) n _ HQ.out.m (by have := HCL.out; omega) (by omega) (by have := HQ.out.len; omega)).mono ?_
            rintro e w5 ⟨rfl, hm5, ho5⟩
            rw [Int.toNat_natCast, HQ.out.z n (.inl hn3)]
            have HF := hid (HQ.out.kept hm5 ho5)
            clear hm5 ho5 HQ
            go_wp2
            go_roundw
            case rel => exact ⟨n + 1, by omega, by go_num, HF⟩
            case measure => simp [intOf]; omega
          · obtain rfl : n = 3 := by omega
            have hw1 : IntKind.i64.wrap ((K : Int) + 3) = (K : Int) + 3 := IntWalk.i64_in _ (by omega)
            have hw2 : IntKind.i64.wrap ((K : Int) + 4) = (K : Int) + 4 := IntWalk.i64_in _ (by omega)
            go_wp2_with fail
            refine (load_in b g xs (c + 3) ((K : Int) + 3) _ HQ.out.m (by have := HCL.out; omega) (by omega) (by have := HQ.out.len; omega)).mono ?_
            rintro e w5 ⟨rfl, hm5, ho5⟩
            rw [show ((K : Int) + 3).toNat = K + 3 by omega, HQ.out.z (K + 3) (.inr (by omega))]
            have HF := hid (HQ.out.kept hm5 ho5)
            clear hm5 ho5 HQ
            go_wp2_with fail
            refine (load_in b g xs (c + 3 + 1) ((K : Int) + 4) _ HF.out.m (by have := HCL.out; omega) (by omega) (by have := HF.out.len; omega)).mono ?_
            rintro e w5 ⟨rfl, hm5, ho5⟩
            rw [show ((K : Int) + 4).toNat = K + 4 by omega, HF.out.z (K + 4) (.inr (by omega))]
            have HE := hid (HF.out.kept hm5 ho5)
            clear hm5 ho5 HF
            go_wp2_with fail
            go_ret
            exact ⟨rfl, HE.out.B⟩
end Go.Proofs.YtpmldcnmnadgaaaDoor.statusTable
