/- What other texts are built of: ByN, ByS, ByR. -/
import Derived.Test.YtbplbdopnhnhdaaGreatDoorByM
import Derived.Test.YtbplbdopnhnhdaaGreatDoorPreY
import Derived.Deep.CutRange
import Derived.Laws.Concat
/-! hostlerlaw26.things: a row of raw things, as things and as the document's. -/
namespace Go.Proofs.YtbplbdopnhnhdaaGreatDoor
open Go.RowKit
set_option linter.unusedVariables false
set_option linter.unusedSimpArgs false
set_option maxRecDepth 20000
theorem infoAny : (Tryz.prog.info? 20).map (fun i => (i.zero, i.size, i.bytes)) = some (some .nilIface, 1, 16) := by kernel_rfl
theorem infoTg : (Tryz.prog.info? 41).map (fun i => (i.zero, i.size, i.bytes)) = some (some (.agg (tgc ⟨0, (0, 0, 0), (0, 0, 0, 0, 0), 0, { data := #[] }⟩)), 11, 88) := by kernel_rfl
theorem bxV_one (x : Bx) : ∀ u ∈ [bxV x], u.oneCell' = true := by
  intro u hu
  rw [List.mem_singleton] at hu
  subst hu
  cases x <;> rfl
theorem news_bx (w : World) (x : Bx) : ∀ j u, [bxV x][j]? = some u → (w.alloc (.cells #[bxV x] 20)).cell? ((⟨w.heap.size, 0, none⟩ : Addr).add j) = some u := cell_one_new w (bxV x) 20
def tg0 : Tg := ⟨0, (0, 0, 0), (0, 0, 0, 0, 0), 0, { data := #[] }⟩
def tgAt (l : List Tg) (i : Nat) : Tg := l.getD i tg0
def ftg (l : List Tg) : List Value := l.flatMap fun x => (tgc x).toList
theorem tgc_len (x : Tg) : (tgc x).toList.length = 11 := rfl
theorem ftg_cons (x : Tg) (l : List Tg) : ftg (x :: l) = (tgc x).toList ++ ftg l := by simp [ftg]
theorem ftg_app (a b : List Tg) : ftg (a ++ b) = ftg a ++ ftg b := by simp [ftg]
theorem ftg_len : ∀ l : List Tg, (ftg l).length = l.length * 11
  | [] => rfl
  | x :: l => by rw [ftg_cons, List.length_append, tgc_len, ftg_len l, List.length_cons]; omega
theorem ftg_get : ∀ (l : List Tg) (i j : Nat), i < l.length → j < 11 → (ftg l)[i * 11 + j]? = (tgc (tgAt l i))[j]?
  | [], i, j, h, _ => by simp at h
  | x :: l, 0, j, h, hj => by
    rw [ftg_cons, Nat.zero_mul, Nat.zero_add, List.getElem?_append_left (by rw [tgc_len]; exact hj), Array.getElem?_toList]
    rfl
  | x :: l, i + 1, j, h, hj => by
    rw [ftg_cons, List.getElem?_append_right (by rw [tgc_len]; omega), tgc_len, show (i + 1) * 11 + j - 11 = i * 11 + j by omega, ftg_get l i j (by simpa using h) hj]
    simp [tgAt]
theorem tgc_ones (x : Tg) : ∀ u ∈ (tgc x).toList, u.oneCell' = true := by
  intro u hu
  unfold tgc at hu
  simp only [List.mem_cons, List.not_mem_nil, or_false] at hu
  rcases hu with rfl | rfl | rfl | rfl | rfl | rfl | rfl | rfl | rfl | rfl | rfl <;> rfl
theorem bxV_form (b : Bx) : (∃ t v, bxV b = .iface t v) ∨ bxV b = .nilIface := by
  cases b with
  | no => exact .inr rfl
  | _ => exact .inl ⟨_, _, rfl⟩
theorem rawc_all (x : Raw) : (rawc x).all (·.oneCell') = true := by unfold rawc; simp [Value.oneCell']
theorem tgc_all (x : Tg) : (tgc x).all (·.oneCell') = true := by unfold tgc; simp [Value.oneCell']
theorem news_tg (w : World) (x : Tg) (t : TypeId) : ∀ j u, (tgc x).toList[j]? = some u → (w.alloc (.cells (tgc x) t)).cell? ((⟨w.heap.size, 0, none⟩ : Addr).add j) = some u := by
  intro j u hj
  have hb := Deep.blk_alloc_new w (.cells (tgc x) t)
  rw [Addr.add_lit, Nat.zero_add]
  exact blk_cell hb (by rw [← hj, Array.getElem?_toList])
/-- A slice that reads as the document's things. -/
def RdG (w : World) (v : Value) (l : List Tg) : Prop :=
  ∃ a c, v = .slice a l.length c ∧ l.length ≤ c ∧ c ≤ maxLen ∧ (0 < l.length → ∃ g off, a = some ⟨g, off, none⟩ ∧ g < w.heap.size ∧ ∀ i, i < l.length → ∀ j, j < 11 → w.cell? ⟨g, off + (i * 11 + j), none⟩ = (tgc (tgAt l i))[j]?)
theorem RdG.below {w w' : World} {v : Value} {l : List Tg} (h : RdG w v l) (hb : Below w.heap.size w w') : RdG w' v l := by
  obtain ⟨a, c, h1, h2, h3, h4⟩ := h
  refine ⟨a, c, h1, h2, h3, fun h0 => ?_⟩
  obtain ⟨g, off, e, hg, hc⟩ := h4 h0
  have hs := hb.size
  exact ⟨g, off, e, by omega, fun i hi j hj => (hb.cell (p := ⟨g, _, none⟩) hg).trans (hc i hi j hj)⟩
theorem own_rdG {w : World} {base : Nat} {t : TypeId} {v : Value} {l : List Tg} (h : w.ownsRow base t 11 v l.length (ftg l)) : RdG w v l := by
  obtain ⟨h0, ⟨h1, h2⟩ | ⟨q, cap, cur, h1, h2, h3, h4, h5, h6, h7⟩⟩ := id h
  · exact ⟨none, 0, by rw [h1, h2], by omega, by simp, fun h => by omega⟩
  · refine ⟨_, cap, h1, h4, h5, fun hn => ⟨q, 0, rfl, by obtain ⟨hl, _⟩ := Array.getElem?_eq_some_iff.1 h3; exact hl, fun i hi j hj => ?_⟩⟩
    subst h1
    have hl := ftg_len l
    rw [Nat.zero_add, h.cellAt (g := q) (cap := cap) _ (by omega), ftg_get l i j hi hj]
def tgsS (l : List Tg) : List Stb := l.flatMap tgS
def tgsT (l : List Tg) : List UInt8 := l.flatMap tgT
/-- Two rows that tell the same. -/
structure Pair (bs : List Bx) (gs : List Tg) : Prop where
  ln : bs.length = gs.length
  ok : ∀ x ∈ bs, BxOk x
  st : bxAll bs = tgsS gs
  tx : bxTs bs = tgsT gs
  sz : ∀ g ∈ gs, g.t.size ≤ 1000
theorem Pair.nil : Pair [] [] := ⟨rfl, fun x h => by simp at h, rfl, rfl, fun x h => by simp at h⟩
theorem Pair.snoc {bs : List Bx} {gs : List Tg} {x : Raw} {b : Bx} {g : Tg} (h : Pair bs gs) (r : ThRel x b g) : Pair (bs ++ [b]) (gs ++ [g]) :=
  ⟨by simp [h.ln], fun y hy => by
    rcases List.mem_append.1 hy with hy | hy
    · exact h.ok y hy
    · rw [List.mem_singleton] at hy; rw [hy]; exact r.ok,
   by rw [bxAll_snoc, h.st, r.st]; simp [tgsS],
   by rw [bxTs_snoc, h.tx, r.tx]; simp [tgsT],
   fun y hy => by
    rcases List.mem_append.1 hy with hy | hy
    · exact h.sz y hy
    · rw [List.mem_singleton] at hy; rw [hy]; exact r.ln⟩
/-- What stands in things' loop. -/
structure ThW (w0 : World) (bs : List Bx) (gs : List Tg) (v4 v5 : Value) (w : World) : Prop where
  o4 : w.ownsRow w0.heap.size 20 1 v4 bs.length (bs.map bxV)
  o5 : w.ownsRow w0.heap.size 41 11 v5 gs.length (ftg gs)
  bl : Below w0.heap.size w0 w
  n45 : ∀ q, v4.ownBlock = some q → v5.ownBlock ≠ some q
theorem ThW.below {w0 w w' : World} {bs : List Bx} {gs : List Tg} {v4 v5 : Value} (h : ThW w0 bs gs v4 v5 w) (hb : Below w.heap.size w w') : ThW w0 bs gs v4 v5 w' :=
  ⟨own_belowB h.o4 hb, own_belowB h.o5 hb, h.bl.trans (hb.mono h.bl.size), h.n45⟩
theorem ThW.push4 {w0 w w' : World} {bs bs' : List Bx} {gs : List Tg} {v4 v5 v' : Value} (h : ThW w0 bs gs v4 v5 w) (ho : w'.ownsRow w0.heap.size 20 1 v' bs'.length (bs'.map bxV)) (hg : w.grownBy w' v4.ownBlock)
    (hx : v'.ownBlock = v4.ownBlock ∨ v'.ownBlock = some w.heap.size) : ThW w0 bs' gs v' v5 w' := by
  refine ⟨ho, h.o5.kept hg ?_, h.bl.grown hg h.bl.size (fun q hq => (World.ownsRow.lt h.o4 q hq).1), ?_⟩
  · rcases h4 : v4.ownBlock with _ | q
    · rcases v5.ownBlock with _ | q5
      · exact .inl rfl
      · exact .inr (by simp)
    · exact .inr (fun e => h.n45 q h4 e)
  · intro q hq h5
    rcases hx with e | e
    · exact h.n45 q (by rw [← e]; exact hq) h5
    · rw [hq] at e
      have := (World.ownsRow.lt h.o5 q h5).2
      simp at e
      omega
theorem ThW.push5 {w0 w w' : World} {bs : List Bx} {gs gs' : List Tg} {v4 v5 v' : Value} (h : ThW w0 bs gs v4 v5 w) (ho : w'.ownsRow w0.heap.size 41 11 v' gs'.length (ftg gs')) (hg : w.grownBy w' v5.ownBlock)
    (hx : v'.ownBlock = v5.ownBlock ∨ v'.ownBlock = some w.heap.size) : ThW w0 bs gs' v4 v' w' := by
  refine ⟨h.o4.kept hg ?_, ho, h.bl.grown hg h.bl.size (fun q hq => (World.ownsRow.lt h.o5 q hq).1), ?_⟩
  · rcases h5 : v5.ownBlock with _ | q
    · rcases v4.ownBlock with _ | q4
      · exact .inl rfl
      · exact .inr (by simp)
    · exact .inr (fun e => h.n45 q e h5)
  · intro q h4 hq
    rcases hx with e | e
    · exact h.n45 q h4 (by rw [← e]; exact hq)
    · rw [hq] at e
      have := (World.ownsRow.lt h.o4 q h4).2
      simp at e
      omega
def ThingsP (w : World) (e : Ending) (w' : World) : Prop :=
  ∃ va vb bs gs, e = .returned (.tuple #[va, vb]) ∧ RdX w' va bs ∧ RdG w' vb gs ∧ Pair bs gs ∧ bs.length ≤ 40 ∧ Below w.heap.size w w'
end Go.Proofs.YtbplbdopnhnhdaaGreatDoor
/-! Package hostlerref26: digits, Steps, Runes of the document's things. -/
namespace Go.Proofs.YtbplbdopnhnhdaaGreatDoor
open Go.RowKit
set_option linter.unusedVariables false
set_option linter.unusedSimpArgs false
set_option maxRecDepth 20000
theorem infoRs : (Tryz.prog.info? 39).map (fun i => (i.zero, i.size, i.bytes)) = some (some (.agg #[.int .u8 0, .int .u8 0, .int .i64 0, .int .i64 0, .int .i64 0]), 5, 32) := by kernel_rfl
/-- One step more, or none. -/
structure RsW (w0 : World) (L : List Stb) (v : Value) (w : World) : Prop where
  ow : w.ownsRow w0.heap.size 39 5 v L.length (fb L)
  bl : Below w0.heap.size w0 w
theorem RsW.grew {w0 w w' : World} {L L' : List Stb} {v v' : Value} (h : RsW w0 L v w) (ho : w'.ownsRow w0.heap.size 39 5 v' L'.length (fb L')) (hg : w.grownBy w' v.ownBlock) : RsW w0 L' v' w' :=
  ⟨ho, h.bl.grown hg h.bl.size (fun q hq => (World.ownsRow.lt h.ow q hq).1)⟩
theorem RsW.below {w0 w w' : World} {L : List Stb} {v : Value} (h : RsW w0 L v w) (hb : Below w.heap.size w w') : RsW w0 L v w' :=
  ⟨own_belowB h.ow hb, h.bl.trans (hb.mono h.bl.size)⟩
def RsP (L : List Stb) (w : World) (e : Ending) (w' : World) : Prop := ∃ v, e = .returned v ∧ w'.ownsRow w.heap.size 39 5 v L.length (fb L) ∧ Below w.heap.size w w'
theorem byte_at {s : ByteArray} {k : Nat} (h : k < s.size) : s.data.toList.take (k + 1) = s.data.toList.take k ++ [s[k]'h] := by
  have hl : k < s.data.toList.length := by rw [Array.length_toList]; exact h
  rw [List.take_add_one, List.getElem?_eq_getElem hl]
  rfl
theorem bd_snoc (l : List UInt8) (b : UInt8) : bd (l ++ [b]) = bd l ++ dgs [b.toNat] := by
  unfold bd dgs
  rw [List.filter_append, List.map_append]
  congr 1
  by_cases h : dgB b.toNat = true
  · simp [d8, h]
  · simp [d8, h]
theorem bd_len (l : List UInt8) : (bd l).length ≤ l.length := by unfold bd; rw [List.length_map]; exact List.length_filter_le _ _
set_option maxHeartbeats 8000000 in
theorem rdigits_any (s : ByteArray) (w : World) (hs : s.size ≤ 1000) : Calls Tryz.prog 24 #[.string s] w (RsP ((bd s.data.toList).map pk) w) := by
  obtain ⟨i0, hi, hz0, hz1, hz2⟩ := info_parts infoRs
  have HI := hid (And.intro hi (And.intro hz0 (And.intro hz1 hz2)))
  clear hi hz0 hz1 hz2
  have hs2 : (s.size : Int) ≤ 1000 := by omega
  go_enter Tryz.func24, Tryz.ntmps24
  go_wp2_with fail
  go_loopw [3, 4] (fun x i wr => ∃ (k : Nat) (L : List Stb) (a : Option Addr) (m c : Nat), k ≤ s.size ∧ i = .int .i64 k ∧ x = .slice a m c ∧ Hid (m = L.length ∧ L = (bd (s.data.toList.take k)).map pk ∧ L.length ≤ k) ∧ Hid (RsW w L (.slice a m c) wr)) (fun _ i _ => s.size - (intOf i).toNat)
  case atStart => exact ⟨0, [], none, 0, 0, Nat.zero_le _, rfl, rfl, hid ⟨rfl, rfl, Nat.le_refl _⟩, hid ⟨World.ownsRow_nil _ _ _ _, Below.refl _ _⟩⟩
  case round =>
    obtain ⟨k, L, a, m, c, hk, rfl, rfl, HE, W⟩ := hrel
    obtain ⟨rfl, hL, hLk⟩ := HE.out
    have LE := hid (And.intro hL hLk)
    clear HE hL hLk
    by_cases hlt : k < s.size
    · have TK := hid (show (bd (s.data.toList.take (k + 1))).map pk = L ++ (dgs [(s[k]'hlt).toNat]).map pk from by rw [byte_at hlt, bd_snoc, List.map_append, ← LE.out.1])
      have IX : ∀ y : World, (Instr.index 9 (.string s) (.int .i64 k)).run Tryz.prog y = .ok (.int .u8 (s[k]'hlt).toNat) y := fun y => by
        rw [run_index_string y 9 s .i64 k Tryz.underlying9, dif_pos ⟨by omega, by omega⟩]
        rfl
      have b1 := (s[k]'hlt).toNat_lt
      generalize (s[k]'hlt).toNat = b at *
      have S2 := hid (show L.length ≤ 1000 from by have := LE.out.2; omega)
      rcases (show (dgB b = true ∧ (48 : Int) ≤ b ∧ (b : Int) ≤ 57) ∨ (dgB b = false ∧ (b : Int) < 48) ∨ (dgB b = false ∧ (48 : Int) ≤ b ∧ (57 : Int) < b) from by
        unfold dgB
        rcases Nat.lt_or_ge b 48 with h | h
        · exact .inr (.inl ⟨decide_eq_false (by omega), by omega⟩)
        · rcases Nat.lt_or_ge 57 b with h2 | h2
          · exact .inr (.inr ⟨decide_eq_false (by omega), by omega, by omega⟩)
          · exact .inl ⟨decide_eq_true ⟨h, h2⟩, by omega, by omega⟩) with ⟨hd, d1, d2⟩ | ⟨hd, d1⟩ | ⟨hd, d1, d2⟩
      · rw [dgs_yes hd] at TK
        have hw : IntKind.i64.wrap ((b : Int) - 48) = (b : Int) - 48 := IntWalk.i64_in _ (by omega)
        have hw2 : IntKind.i64.wrap (b : Int) = (b : Int) := IntWalk.i64_in _ (by omega)
        have O3 := hid (W.out.ow.alloc (.cells #[.int .u8 0, .int .u8 0, .int .i64 ((b : Int) - 48), .int .i64 0, .int .i64 0] 39))
        have NW := hid (news_sb wr (pk ((b : Int) - 48)) 39)
        have S3 := hid (show w.heap.size ≤ (wr.alloc (.cells #[.int .u8 0, .int .u8 0, .int .i64 ((b : Int) - 48), .int .i64 0, .int .i64 0] 39)).heap.size from by have := W.out.bl.size; simp; omega)
        clear hd
        go_wp2_with (at_builtin; refine wpList_append_own_at _ rfl _ _ 50 rfl w.heap.size 39 i0 _ 5 32 Tryz.underlying50 HI.out.1 HI.out.2.1 HI.out.2.2.1 HI.out.2.2.2 rfl (by decide) _ _ _ rfl O3.out ⟨wr.heap.size, 0, none⟩ 1 1 (fb [pk ((b : Int) - 48)]) rfl rfl NW.out (fb_ones _) ?c1 ?c2 S3.out ?_)
        case c1 => have := S2.out; unfold maxLen; omega
        case c2 => have := S2.out; omega
        intro v' w6 hown6 hgrow _ _
        have own6 : w6.ownsRow w.heap.size 39 5 v' (L ++ [pk ((b : Int) - 48)]).length (fb (L ++ [pk ((b : Int) - 48)])) := by
          rw [List.length_append, fb_app]
          exact hown6
        have W6 := hid ((W.out.below ((Below.refl wr.heap.size wr).alloc (Nat.le_refl _) (.cells #[.int .u8 0, .int .u8 0, .int .i64 ((b : Int) - 48), .int .i64 0, .int .i64 0] 39))).grew own6 hgrow)
        obtain ⟨a6, c6, rfl⟩ := own_sliceB own6
        clear hown6 own6 hgrow O3 NW W S3
        go_wp2
        go_roundw
        case rel => exact ⟨k + 1, _, a6, _, c6, by omega, by go_num, rfl, hid ⟨rfl, by rw [TK.out]; rfl, by have := LE.out.2; simp; omega⟩, W6⟩
        case measure => simp [intOf]; omega
      all_goals
        rw [dgs_no hd] at TK
        clear hd
        go_wp2
        go_roundw
        case rel => exact ⟨k + 1, L, a, _, c, by omega, by go_num, rfl, hid ⟨rfl, by rw [TK.out]; simp, by have := LE.out.2; omega⟩, W⟩
        case measure => simp [intOf]; omega
    · obtain rfl : k = s.size := by omega
      have FN := hid (show RsP ((bd s.data.toList).map pk) w (.returned (.slice a L.length c)) wr from by
        have h1 := LE.out.1
        rw [List.take_of_length_le (by rw [Array.length_toList]; exact Nat.le_refl _)] at h1
        rw [← h1]
        exact ⟨_, rfl, W.out.ow, W.out.bl⟩)
      clear W
      go_wp2
      go_ret
      exact FN.out
theorem RdB.news {w : World} {ad : Addr} {c : Nat} {es : List Stb} (h : RdB w (.slice (some ad) es.length c) es) : ∀ j u, (fb es)[j]? = some u → w.cell? (ad.add j) = some u := by
  intro j u hj
  have hl := fb_len es
  have hjl := (List.getElem?_eq_some_iff.1 hj).1
  obtain ⟨a, c', e, _, _, hh⟩ := h
  simp only [Value.slice.injEq] at e
  obtain ⟨rfl, _, _⟩ := e
  obtain ⟨g, off, e2, _, hc⟩ := hh (by omega)
  obtain rfl := Option.some.inj e2
  obtain ⟨c0, c1, c2, c3, c4⟩ := hc (j / 5) (by omega)
  obtain ⟨k0, k1, k2, k3, k4⟩ := fb_get es (j / 5) (by omega)
  rw [Addr.add_lit]
  rcases (show j % 5 = 0 ∨ j % 5 = 1 ∨ j % 5 = 2 ∨ j % 5 = 3 ∨ j % 5 = 4 by omega) with h5 | h5 | h5 | h5 | h5
  · rw [show j = j / 5 * 5 by omega, k0] at hj
    rw [show off + j = off + j / 5 * 5 by omega, c0, ← hj]
  · rw [show j = j / 5 * 5 + 1 by omega, k1] at hj
    rw [show off + j = off + j / 5 * 5 + 1 by omega, c1, ← hj]
  · rw [show j = j / 5 * 5 + 2 by omega, k2] at hj
    rw [show off + j = off + j / 5 * 5 + 2 by omega, c2, ← hj]
  · rw [show j = j / 5 * 5 + 3 by omega, k3] at hj
    rw [show off + j = off + j / 5 * 5 + 3 by omega, c3, ← hj]
  · rw [show j = j / 5 * 5 + 4 by omega, k4] at hj
    rw [show off + j = off + j / 5 * 5 + 4 by omega, c4, ← hj]
/-- An append of steps that read. -/
theorem wpList_append_ownB {P : Program} {w : World} {ops : Array Oper} {rest : List Oper} {o : Oper} {a : Act} {Q : Exit → Act → World → Prop} (hgd : o.guard = none) (s x : Operand) (t : TypeId)
    (ho : o.op = .call { callee := .builtin .append, args := #[s, x], argTypes := #[t, t] })
    (base : Nat) (e : TypeId) (i : TypeInfo) (z : Value) (bytes : Nat) (ht : P.underlying t = some (.slice e)) (hi : P.info? e = some i) (hz : i.zero = some z)
    (hsize : i.size = 5) (hby : i.bytes = bytes) (hzs : z.cells.size = 5)
    (v : Value) (n : Nat) (xs : List Value) (hs : a.eval s = v) (hown : w.ownsRow base e 5 v n xs)
    (es : List Stb) (vy : Value) (hx : a.eval x = vy) {b2 : Nat} {t2 : TypeId} (hr : w.ownsRow b2 t2 5 vy es.length (fb es))
    (h63 : n + es.length ≤ maxLen) (hbytes : (n + es.length) * bytes ≤ 140737488355328) (hbase : base ≤ w.heap.size)
    (h : ∀ v' w', w'.ownsRow base e 5 v' (n + es.length) (xs ++ fb es) → w.grownBy w' v.ownBlock → wpList P ops Q rest (a.put o.dst v') w') :
    wpList P ops Q (o :: rest) a w := by
  have hrd := own_rdB hr
  obtain ⟨h0, ⟨h1, h2⟩ | ⟨g, cap, cur, h1, _⟩⟩ := hr
  · have hy0 : es = [] := List.length_eq_zero_iff.1 h2
    subst hy0
    subst h1
    exact wpList_append_own_none hgd s x t ho base e i 5 ht hi v n xs hs hown hx (h v w (by simpa [fb] using hown) (.refl _ _))
  · subst h1
    exact wpList_append_own w hgd s x t ho base e i z 5 bytes ht hi hz hsize hby hzs (by decide) v n xs hs hown ⟨g, 0, none⟩ es.length cap (fb es) hx (fb_len es) hrd.news (fb_ones es) h63 hbytes hbase (fun v' w' h1 h2 _ => h v' w' h1 h2)
theorem tg11 {w : World} {q off k : Nat} {g : Tg} (h : ∀ j, j < 11 → w.cell? ⟨q, off + (k * 11 + j), none⟩ = (tgc g)[j]?) :
    w.cell? ⟨q, off + k * 11, none⟩ = some (.int .i64 g.k) ∧
    w.cell? ⟨q, off + k * 11 + 1, none⟩ = some (.int .i64 g.p.1) ∧
    w.cell? ⟨q, off + k * 11 + 2, none⟩ = some (.int .i64 g.p.2.1) ∧
    w.cell? ⟨q, off + k * 11 + 3, none⟩ = some (.int .i64 g.p.2.2) ∧
    w.cell? ⟨q, off + k * 11 + 4, none⟩ = some (.int .u8 g.s.1) ∧
    w.cell? ⟨q, off + k * 11 + 5, none⟩ = some (.int .u8 g.s.2.1) ∧
    w.cell? ⟨q, off + k * 11 + 6, none⟩ = some (.int .i64 g.s.2.2.1) ∧
    w.cell? ⟨q, off + k * 11 + 7, none⟩ = some (.int .i64 g.s.2.2.2.1) ∧
    w.cell? ⟨q, off + k * 11 + 8, none⟩ = some (.int .i64 g.s.2.2.2.2) ∧
    w.cell? ⟨q, off + k * 11 + 9, none⟩ = some (.int .i64 g.n) ∧
    w.cell? ⟨q, off + k * 11 + 10, none⟩ = some (.string g.t) := by
  have h' : ∀ j, j < 11 → w.cell? ⟨q, off + k * 11 + j, none⟩ = (tgc g)[j]? := fun j hj => by rw [Nat.add_assoc]; exact h j hj
  exact ⟨h' 0 (by decide), h' 1 (by decide), h' 2 (by decide), h' 3 (by decide), h' 4 (by decide), h' 5 (by decide), h' 6 (by decide), h' 7 (by decide), h' 8 (by decide), h' 9 (by decide), h' 10 (by decide)⟩
theorem tg_take {l : List Tg} {k : Nat} (h : k < l.length) : l.take (k + 1) = l.take k ++ [tgAt l k] := by
  rw [List.take_add_one, List.getElem?_eq_getElem h]
  simp [tgAt, List.getElem?_eq_getElem h]
theorem tg_mem {l : List Tg} {k : Nat} (h : k < l.length) : tgAt l k ∈ l := by
  unfold tgAt
  rw [List.getD_eq_getElem?_getD, List.getElem?_eq_getElem h]
  exact List.getElem_mem _
theorem tgsS_snoc (l : List Tg) (g : Tg) : tgsS (l ++ [g]) = tgsS l ++ tgS g := by simp [tgsS]
theorem tgsT_snoc (l : List Tg) (g : Tg) : tgsT (l ++ [g]) = tgsT l ++ tgT g := by simp [tgsT]
theorem tgS_len {g : Tg} (h : g.t.size ≤ 1000) : (tgS g).length ≤ 1000 := by
  unfold tgS
  split
  · simp
  · split
    · simp
    · split
      · rw [List.length_map]
        exact Nat.le_trans (bd_len _) (by rw [Array.length_toList]; exact h)
      · simp
theorem tgsS_len : ∀ {l : List Tg}, (∀ g ∈ l, g.t.size ≤ 1000) → (tgsS l).length ≤ l.length * 1000
  | [], _ => by simp [tgsS]
  | x :: l, h => by
    have h1 := tgS_len (h x (by simp))
    have h2 := tgsS_len (l := l) (fun y hy => h y (by simp [hy]))
    simp [tgsS] at h2 ⊢
    omega
set_option maxHeartbeats 8000000 in
theorem rsteps_any (v : Value) (l : List Tg) (w : World) (hr : RdG w v l) (hz : ∀ g ∈ l, g.t.size ≤ 1000) (hl : l.length ≤ 100) : Calls Tryz.prog 13 #[v] w (RsP (tgsS l) w) := by
  have RD := hid hr
  have SZ := hid hz
  obtain ⟨a, c, rfl, _, _⟩ := hr
  obtain ⟨n, hn⟩ : ∃ n, n = l.length := ⟨_, rfl⟩
  have HN := hid hn
  rw [← hn] at hl ⊢
  obtain ⟨i0, hi, hz0, hz1, hz2⟩ := info_parts infoRs
  have HI := hid (And.intro hi (And.intro hz0 (And.intro hz1 hz2)))
  clear hn hz hi hz0 hz1 hz2
  go_enter Tryz.func13, Tryz.ntmps13
  go_wp2_with fail
  go_loopw [3, 8] (fun x i wr => ∃ (k : Nat) (L : List Stb) (a : Option Addr) (m c : Nat), k ≤ n ∧ i = .int .i64 k ∧ x = .slice a m c ∧ Hid (m = L.length ∧ L = tgsS (l.take k)) ∧ Hid (RsW w L (.slice a m c) wr)) (fun _ i _ => n - (intOf i).toNat)
  case atStart => exact ⟨0, [], none, 0, 0, Nat.zero_le _, rfl, rfl, hid ⟨rfl, rfl⟩, hid ⟨World.ownsRow_nil _ _ _ _, Below.refl _ _⟩⟩
  case round =>
    obtain ⟨k, L, a, m, c3, hk, rfl, rfl, HE, W⟩ := hrel
    obtain ⟨rfl, hL⟩ := HE.out
    have LE := hid hL
    clear HE hL
    by_cases hlt : k < n
    · obtain ⟨a', c', e, _, _, hh⟩ := RD.out.below W.out.bl
      simp only [Value.slice.injEq] at e
      obtain ⟨rfl, e9, rfl⟩ := e
      clear e9
      obtain ⟨q, off, rfl, _, hc⟩ := hh (by have := HN.out; omega)
      obtain ⟨h0, h1, h2, h3, h4, h5, h6, h7, h8, h9, h10⟩ := tg11 (hc k (by have := HN.out; omega))
      have TK := hid (show tgsS (l.take (k + 1)) = L ++ tgS (tgAt l k) from by rw [tg_take (by have := HN.out; omega), tgsS_snoc, ← LE.out])
      have GZ := hid (SZ.out _ (tg_mem (l := l) (k := k) (by have := HN.out; omega)))
      have BL := hid (show L.length ≤ 100000 from by
        have h1 := tgsS_len (l := l.take k) (fun x hx => SZ.out x (List.mem_of_mem_take hx))
        have h2 : (l.take k).length ≤ k := by rw [List.length_take]; omega
        rw [LE.out]
        omega)
      generalize tgAt l k = g at *
      have W2 := hid (W.out.below ((Below.refl wr.heap.size wr).alloc (Nat.le_refl _) (.cells (tgc g) 41)))
      have GX := hid (Deep.blk_alloc_new wr (.cells (tgc g) 41))
      clear hh hc W
      go_upto_region 5 with (refine wpList_store_new rfl 41 (.tmp 5) (.tmp 11) rfl _ (tgc g) 41 rfl rfl (by kernel_rfl) (by rfl) (tgc_all _) ?_)
      clear h0 h1 h2 h3 h4 h5 h6 h7 h8 h9 h10
      generalize wr.alloc (.cells (tgc g) 41) = w2 at *
      have y0 : w2.cell? ⟨wr.heap.size, 0, none⟩ = some (.int .i64 g.k) := blk_cell GX.out rfl
      have y4 : w2.cell? ⟨wr.heap.size, 4, none⟩ = some (.int .u8 g.s.1) := blk_cell GX.out rfl
      have y5 : w2.cell? ⟨wr.heap.size, 5, none⟩ = some (.int .u8 g.s.2.1) := blk_cell GX.out rfl
      have y6 : w2.cell? ⟨wr.heap.size, 6, none⟩ = some (.int .i64 g.s.2.2.1) := blk_cell GX.out rfl
      have y7 : w2.cell? ⟨wr.heap.size, 7, none⟩ = some (.int .i64 g.s.2.2.2.1) := blk_cell GX.out rfl
      have y8 : w2.cell? ⟨wr.heap.size, 8, none⟩ = some (.int .i64 g.s.2.2.2.2) := blk_cell GX.out rfl
      have y9 : w2.cell? ⟨wr.heap.size, 9, none⟩ = some (.int .i64 g.n) := blk_cell GX.out rfl
      have y10 : w2.cell? ⟨wr.heap.size, 10, none⟩ = some (.string g.t) := blk_cell GX.out rfl
      have W3 := W2
      clear W2
      obtain ⟨gk, gp, ⟨s0, s1, s2, s3, s4⟩, gn, gt⟩ := g
      simp only at y0 y4 y5 y6 y7 y8 y9 y10
      by_cases k2 : gk = 2
      · subst k2
        rw [show tgS ⟨2, gp, (s0, s1, s2, s3, s4), gn, gt⟩ = [(s0, s1, s2, s3, s4)] from rfl] at TK
        have O3 := hid (W3.out.ow.alloc (.cells #[.int .u8 s0, .int .u8 s1, .int .i64 s2, .int .i64 s3, .int .i64 s4] 39))
        have NW := hid (news_sb w2 (s0, s1, s2, s3, s4) 39)
        have S3 := hid (show w.heap.size ≤ (w2.alloc (.cells #[.int .u8 s0, .int .u8 s1, .int .i64 s2, .int .i64 s3, .int .i64 s4] 39)).heap.size from by have := W3.out.bl.size; simp; omega)
        go_wp2_with (at_builtin; refine wpList_append_own_at _ rfl _ _ 50 rfl w.heap.size 39 i0 _ 5 32 Tryz.underlying50 HI.out.1 HI.out.2.1 HI.out.2.2.1 HI.out.2.2.2 rfl (by decide) _ _ _ rfl O3.out ⟨w2.heap.size, 0, none⟩ 1 1 (fb [(s0, s1, s2, s3, s4)]) rfl rfl NW.out (fb_ones _) ?c1 ?c2 S3.out ?_)
        case c1 => have := BL.out; unfold maxLen; omega
        case c2 => have := BL.out; omega
        intro v' w6 hown6 hgrow _ _
        have own6 : w6.ownsRow w.heap.size 39 5 v' (L ++ [(s0, s1, s2, s3, s4)]).length (fb (L ++ [(s0, s1, s2, s3, s4)])) := by
          rw [List.length_append, fb_app]
          exact hown6
        have W6 := hid ((W3.out.below ((Below.refl _ _).alloc (Nat.le_refl _) _)).grew own6 hgrow)
        obtain ⟨a6, c6, rfl⟩ := own_sliceB own6
        clear hown6 own6 hgrow O3 NW W3 S3
        go_wp2
        go_roundw
        case rel => exact ⟨k + 1, _, a6, _, c6, by omega, by go_num, rfl, hid ⟨rfl, by rw [TK.out]⟩, W6⟩
        case measure => simp [intOf]; omega
      by_cases k4 : gk = 4
      · subst k4
        clear k2
        rw [show tgS ⟨4, gp, (s0, s1, s2, s3, s4), gn, gt⟩ = [pk gn] from rfl] at TK
        have O3 := hid (W3.out.ow.alloc (.cells #[.int .u8 0, .int .u8 0, .int .i64 gn, .int .i64 0, .int .i64 0] 39))
        have NW := hid (news_sb w2 (pk gn) 39)
        have S3 := hid (show w.heap.size ≤ (w2.alloc (.cells #[.int .u8 0, .int .u8 0, .int .i64 gn, .int .i64 0, .int .i64 0] 39)).heap.size from by have := W3.out.bl.size; simp; omega)
        go_wp2_with (at_builtin; refine wpList_append_own_at _ rfl _ _ 50 rfl w.heap.size 39 i0 _ 5 32 Tryz.underlying50 HI.out.1 HI.out.2.1 HI.out.2.2.1 HI.out.2.2.2 rfl (by decide) _ _ _ rfl O3.out ⟨w2.heap.size, 0, none⟩ 1 1 (fb [pk gn]) rfl rfl NW.out (fb_ones _) ?c1 ?c2 S3.out ?_)
        case c1 => have := BL.out; unfold maxLen; omega
        case c2 => have := BL.out; omega
        intro v' w6 hown6 hgrow _ _
        have own6 : w6.ownsRow w.heap.size 39 5 v' (L ++ [pk gn]).length (fb (L ++ [pk gn])) := by
          rw [List.length_append, fb_app]
          exact hown6
        have W6 := hid ((W3.out.below ((Below.refl _ _).alloc (Nat.le_refl _) _)).grew own6 hgrow)
        obtain ⟨a6, c6, rfl⟩ := own_sliceB own6
        clear hown6 own6 hgrow O3 NW W3 S3
        go_wp2
        go_roundw
        case rel => exact ⟨k + 1, _, a6, _, c6, by omega, by go_num, rfl, hid ⟨rfl, by rw [TK.out]⟩, W6⟩
        case measure => simp [intOf]; omega
      have t2 : (gk == 2) = false := by simpa using k2
      have t4 : (gk == 4) = false := by simpa using k4
      by_cases k56 : gk = 5 ∨ gk = 6
      · rw [show tgS ⟨gk, gp, (s0, s1, s2, s3, s4), gn, gt⟩ = (bd gt.data.toList).map pk from by unfold tgS; rw [if_neg k2, if_neg k4, if_pos k56]] at TK
        have RS := hid (rdigits_any gt w2 GZ.out)
        have DL := hid (show ((bd gt.data.toList).map pk).length ≤ 1000 from by rw [List.length_map]; exact Nat.le_trans (bd_len _) (by rw [Array.length_toList]; exact GZ.out))
        rcases (show (gk == 5) = true ∨ ((gk == 5) = false ∧ (gk == 6) = true) by rcases k56 with h | h <;> subst h <;> simp) with t5 | ⟨t5, t6⟩
        all_goals
          clear k2 k4 k56
          go_wp2_with fail
          refine RS.out.mono ?_
          rintro e w4 ⟨v4, rfl, own4, hb4⟩
          have W4 := hid (W3.out.below hb4)
          have O4 := hid own4
          have S4 := hid W4.out.bl.size
          generalize (bd gt.data.toList).map pk = M at *
          clear own4 hb4 RS W3
          go_wp2_with (at_builtin; refine wpList_append_ownB rfl _ _ 50 rfl w.heap.size 39 i0 _ 32 Tryz.underlying50 HI.out.1 HI.out.2.1 HI.out.2.2.1 HI.out.2.2.2 rfl _ _ _ rfl W4.out.ow M _ rfl O4.out ?c1 ?c2 S4.out ?_)
          case c1 => have := BL.out; have := DL.out; unfold maxLen; omega
          case c2 => have := BL.out; have := DL.out; omega
          intro v' w6 hown6 hgrow
          have own6 : w6.ownsRow w.heap.size 39 5 v' (L ++ M).length (fb (L ++ M)) := by
            rw [List.length_append, fb_app]
            exact hown6
          have W6 := hid (W4.out.grew own6 hgrow)
          generalize hLM : L ++ M = LM at *
          obtain ⟨a6, c6, rfl⟩ := own_sliceB own6
          clear hown6 own6 hgrow O4 W4 S4
          go_wp2
          go_roundw
          case rel => exact ⟨k + 1, LM, a6, _, c6, by omega, by go_num, rfl, hid ⟨rfl, TK.out.symm⟩, W6⟩
          case measure => simp [intOf]; omega
      · rw [show tgS ⟨gk, gp, (s0, s1, s2, s3, s4), gn, gt⟩ = [] from by unfold tgS; rw [if_neg k2, if_neg k4, if_neg k56], List.append_nil] at TK
        have t5 : (gk == 5) = false := by simp; omega
        have t6 : (gk == 6) = false := by simp; omega
        clear k2 k4 k56
        go_wp2
        go_roundw
        case rel => exact ⟨k + 1, L, a, _, c3, by omega, by go_num, rfl, hid ⟨rfl, TK.out.symm⟩, W3⟩
        case measure => simp [intOf]; omega
    · obtain rfl : k = n := by omega
      have FN := hid (show RsP (tgsS l) w (.returned (.slice a L.length c3)) wr from by
        have h1 := LE.out
        rw [List.take_of_length_le (by have := HN.out; omega)] at h1
        rw [← h1]
        exact ⟨_, rfl, W.out.ow, W.out.bl⟩)
      clear W
      go_wp2
      go_ret
      exact FN.out
end Go.Proofs.YtbplbdopnhnhdaaGreatDoor
/-! hostlerref26.Runes: all texts of the document's things. -/
namespace Go.Proofs.YtbplbdopnhnhdaaGreatDoor
open Go.RowKit
set_option linter.unusedVariables false
set_option linter.unusedSimpArgs false
set_option maxRecDepth 20000
theorem bytes_eq {s : ByteArray} {l : List UInt8} (h : s.data.toList = l) : s = ⟨l.toArray⟩ := by
  subst h
  simp
theorem tgT_len {g : Tg} (h : g.t.size ≤ 1000) : (tgT g).length ≤ 1000 := by
  unfold tgT
  split
  · rw [Array.length_toList]; exact h
  · simp
theorem tgsT_len : ∀ {l : List Tg}, (∀ g ∈ l, g.t.size ≤ 1000) → (tgsT l).length ≤ l.length * 1000
  | [], _ => by simp [tgsT]
  | x :: l, h => by
    have h1 := tgT_len (h x (by simp))
    have h2 := tgsT_len (l := l) (fun y hy => h y (by simp [hy]))
    simp [tgsT] at h2 ⊢
    omega
set_option maxHeartbeats 8000000 in
theorem rrunes_any (v : Value) (l : List Tg) (w : World) (hr : RdG w v l) (hz : ∀ g ∈ l, g.t.size ≤ 1000) (hl : l.length ≤ 100) : Calls Tryz.prog 14 #[v] w fun e w' => e = .returned (.string ⟨(tgsT l).toArray⟩) ∧ Below w.heap.size w w' := by
  have RD := hid hr
  have SZ := hid hz
  obtain ⟨a, c, rfl, _, _⟩ := hr
  obtain ⟨n, hn⟩ : ∃ n, n = l.length := ⟨_, rfl⟩
  have HN := hid hn
  rw [← hn] at hl ⊢
  clear hn hz
  go_enter Tryz.func14, Tryz.ntmps14
  go_wp2_with fail
  go_loopw [3, 8] (fun x i wr => ∃ (k : Nat) (s : ByteArray), k ≤ n ∧ i = .int .i64 k ∧ x = .string s ∧ Hid (s.data.toList = tgsT (l.take k)) ∧ Hid (Below w.heap.size w wr)) (fun _ i _ => n - (intOf i).toNat)
  case atStart => exact ⟨0, { data := #[] }, Nat.zero_le _, rfl, rfl, hid rfl, hid (Below.refl _ _)⟩
  case round =>
    obtain ⟨k, s, hk, rfl, rfl, HE, B⟩ := hrel
    by_cases hlt : k < n
    · obtain ⟨a', c', e, _, _, hh⟩ := RD.out.below B.out
      simp only [Value.slice.injEq] at e
      obtain ⟨rfl, e9, rfl⟩ := e
      clear e9
      obtain ⟨q, off, rfl, _, hc⟩ := hh (by have := HN.out; omega)
      obtain ⟨h0, h1, h2, h3, h4, h5, h6, h7, h8, h9, h10⟩ := tg11 (hc k (by have := HN.out; omega))
      have TK := hid (show tgsT (l.take (k + 1)) = tgsT (l.take k) ++ tgT (tgAt l k) from by rw [tg_take (by have := HN.out; omega), tgsT_snoc])
      have GZ := hid (SZ.out _ (tg_mem (l := l) (k := k) (by have := HN.out; omega)))
      have SL := hid (show s.size ≤ 100000 from by
        have h1 := tgsT_len (l := l.take k) (fun x hx => SZ.out x (List.mem_of_mem_take hx))
        have h2 : (l.take k).length ≤ k := by rw [List.length_take]; omega
        have h3 : s.data.toList.length = s.size := by rw [Array.length_toList]; rfl
        rw [← HE.out] at h1
        omega)
      generalize tgAt l k = g at *
      have W2 := hid (B.out.alloc B.out.size (.cells (tgc g) 41))
      have GX := hid (Deep.blk_alloc_new wr (.cells (tgc g) 41))
      clear hh hc B
      go_upto_region 5 with (refine wpList_store_new rfl 41 (.tmp 5) (.tmp 11) rfl _ (tgc g) 41 rfl rfl (by kernel_rfl) (by rfl) (tgc_all _) ?_)
      clear h0 h1 h2 h3 h4 h5 h6 h7 h8 h9 h10
      generalize wr.alloc (.cells (tgc g) 41) = w2 at *
      have y0 : w2.cell? ⟨wr.heap.size, 0, none⟩ = some (.int .i64 g.k) := blk_cell GX.out rfl
      have y10 : w2.cell? ⟨wr.heap.size, 10, none⟩ = some (.string g.t) := blk_cell GX.out rfl
      obtain ⟨gk, gp, gs, gn, gt⟩ := g
      simp only at y0 y10
      by_cases k56 : gk = 5 ∨ gk = 6
      · have TS := hid (show (s ++ gt).data.toList = tgsT (l.take (k + 1)) from by
          rw [TK.out, ← HE.out, ByteArray.data_append, Array.toList_append, show tgT ⟨gk, gp, gs, gn, gt⟩ = gt.data.toList from by unfold tgT; rw [if_pos k56]])
        have CC : ∀ y : World, (Op.stringOp .add s gt).run Tryz.prog y = .ok (.string (s ++ gt)) y := fun y => run_string_add (w := y) s gt (by have := SL.out; omega) (by have h : gt.size ≤ 1000 := GZ.out; omega)
        rcases (show (gk == 5) = true ∨ ((gk == 5) = false ∧ (gk == 6) = true) by rcases k56 with h | h <;> subst h <;> simp) with t5 | ⟨t5, t6⟩
        all_goals
          clear k56
          go_wp2
          go_roundw
          case rel => exact ⟨k + 1, _, by omega, by go_num, rfl, TS, W2⟩
          case measure => simp [intOf]; omega
      · have TS := hid (show s.data.toList = tgsT (l.take (k + 1)) from by
          rw [TK.out, ← HE.out, show tgT ⟨gk, gp, gs, gn, gt⟩ = [] from by unfold tgT; rw [if_neg k56], List.append_nil])
        have t5 : (gk == 5) = false := by simp; omega
        have t6 : (gk == 6) = false := by simp; omega
        clear k56
        go_wp2
        go_roundw
        case rel => exact ⟨k + 1, s, by omega, by go_num, rfl, TS, W2⟩
        case measure => simp [intOf]; omega
    · obtain rfl : k = n := by omega
      have hs : s = ⟨(tgsT l).toArray⟩ := bytes_eq (by rw [HE.out, List.take_of_length_le (by have := HN.out; omega)])
      have HS := hid hs
      clear hs
      go_wp2
      go_ret
      exact ⟨by rw [← HS.out]; rfl, B.out⟩
end Go.Proofs.YtbplbdopnhnhdaaGreatDoor
