/- The walk of the statement ScriptParses: the law answers true and turns nothing that was there. -/
import Derived.Test.YtpgamdnkdoebgaaGreatDoorPreS
import Derived.Laws.BytesArg
import Derived.Laws.AppendOwnNone
import Derived.Maps.AppendAt
namespace Go.Proofs.YtpgamdnkdoebgaaGreatDoor.scriptParses
open Go.RowKit
set_option linter.unusedVariables false
set_option linter.unusedSimpArgs false
set_option maxRecDepth 20000
def bv (s : ByteArray) : List Value := s.data.toList.map fun x => .int .u8 (x.toNat : Int)
theorem bv_len (s : ByteArray) : (bv s).length = s.size := by simp [bv]
theorem bv_ones (s : ByteArray) : ∀ u ∈ bv s, u.oneCell' = true := by
  intro u hu
  obtain ⟨x, _, rfl⟩ := List.mem_map.1 hu
  rfl
theorem bv_at (s : ByteArray) (j : Nat) (h : j < s.size) : (bv s)[j]? = some (.int .u8 (s[j].toNat : Int)) := by
  unfold bv
  rw [List.getElem?_map, List.getElem?_eq_getElem (by simpa using h)]
  rfl
theorem conv0 (ad : Addr) (cap : Nat) (w : World) : (convert 22 9 (.slice (some ad) 0 cap)).run Tryz.prog w = .ok (.string ⟨#[]⟩) w := by
  have hl : (loadCells ad 0).run Tryz.prog w = .ok (([] : List Int).map (Value.int .u8)).toArray w := run_loadCells_list (P := Tryz.prog) w ad [] (fun j v hj => by simp at hj)
  rw [run_convert_bytes_string w 22 9 5 (some ad) 0 cap Tryz.underlying22 Tryz.underlying5 Tryz.underlying9, run_bytesToString w ad 0 cap [] hl]
  rfl
/-- What is known of the bytes that came in. -/
structure Inp (w : World) (a : Option Addr) (len cap : Nat) (s : ByteArray) : Prop where
  size : s.size = len
  lc : len ≤ cap
  cm : cap ≤ maxLen
  cv : ∀ w', Below w.heap.size w w' → (convert 22 9 (.slice a len cap)).run Tryz.prog w' = .ok (.string s) w'
  at' : (a = none ∧ len = 0 ∧ cap = 0) ∨ ∃ ad, a = some ad ∧ ∀ w', Below w.heap.size w w' → ∀ j u, (bv s)[j]? = some u → w'.cell? (ad.add j) = some u
theorem Inp.of {w : World} {a : Option Addr} {len cap : Nat} {zs : List Int} (h : IsRow .u8 w a len cap zs) : ∃ s, Inp w a len cap s := by
  have ho := h.open
  rcases id h with ⟨rfl, rfl, rfl, rfl⟩ | ⟨x, rfl, hl, hm, hz, hc, hw⟩
  · exact ⟨ByteArray.empty, rfl, Nat.le_refl _, by unfold maxLen; omega, fun w' _ => run_convert_bytes_nil w' 22 5 Tryz.underlying22 Tryz.underlying5 0 0 9 Tryz.underlying9, .inl ⟨rfl, rfl, rfl⟩⟩
  · rcases Nat.eq_zero_or_pos len with h0 | h0
    · subst h0
      exact ⟨⟨#[]⟩, rfl, hl, hm, fun w' _ => conv0 x cap w', .inr ⟨x, rfl, fun w' _ j u hj => by simp [bv] at hj⟩⟩
    · obtain ⟨bx, off, he, hlz, hwf, hcl⟩ := ho.resolve_left (by omega)
      simp only [Option.some.injEq] at he
      subst he
      have hts : (zs.take len).length = len := by rw [List.length_take]; omega
      have hd : (strOfNums (zs.take len)).data.toList = (zs.take len).map fun n => UInt8.ofNat n.toNat := by simp [strOfNums]
      have hsz : (strOfNums (zs.take len)).size = len := by rw [Lib.size_eq, hd, List.length_map, hts]
      have hat : ∀ j, j < len → (zs.take len).getD j 0 = zs.getD j 0 := fun j hj => by simp [List.getD, List.getElem?_take_of_lt hj]
      refine ⟨strOfNums (zs.take len), hsz, hl, hm, fun w' hb => run_convert_bytes_arg w' 22 5 Tryz.underlying22 Tryz.underlying5 bx off len cap (zs.take len) hts (fun i hi => by rw [hat i hi]; exact hcl w' hb i hi) 9 Tryz.underlying9, .inr ⟨_, rfl, fun w' hb j u hj => ?_⟩⟩
      have hjl : j < len := by
        have := (List.getElem?_eq_some_iff.1 hj).1
        rw [bv_len, hsz] at this
        exact this
      rw [Addr.add_lit, hcl w' hb j hjl, ← hj]
      unfold bv
      rw [hd, List.map_map, List.getElem?_map, List.getElem?_take_of_lt hjl]
      have hzl : j < zs.length := by omega
      have hb := bounds_u8 (hwf _ (List.getElem_mem hzl))
      simp [List.getD, List.getElem?_eq_getElem hzl]
      omega
/-- A copy of the bytes, of one's own. -/
structure OwB (w : World) (s : ByteArray) (g c : Nat) (w1 : World) : Prop where
  by' : Lib.Bytes w1 g 0 s
  gl : g < w1.heap.size
  sc : s.size ≤ c
  cm : c ≤ maxLen
  bl : Below w.heap.size w w1
theorem OwB.of {w w1 : World} {s : ByteArray} {v : Value} {t : TypeId} (h : w1.ownsRow w.heap.size t 1 v s.size (bv s)) (hv : v ≠ .slice none 0 0) (hb : Below w.heap.size w w1) : ∃ g c, v = .slice (some ⟨g, 0, none⟩) s.size c ∧ OwB w s g c w1 := by
  obtain ⟨_, ⟨e, _⟩ | ⟨g, c, cur, e, h2, h3, h4, h5, h6, h7⟩⟩ := id h
  · exact absurd e hv
  · subst e
    refine ⟨g, c, rfl, fun j hj => ?_, (Array.getElem?_eq_some_iff.1 h3).1, h4, h5, hb⟩
    rw [Nat.zero_add, h.cellAt j (by omega)]
    exact bv_at s j hj
theorem infoB : (Tryz.prog.info? 5).map (fun i => (i.zero, i.size, i.bytes)) = some (some (.int .u8 0), 1, 1) := by kernel_rfl
theorem equalIn_st (x y : Sp) (w : World) : (Op.equalIn 10000 33 (.agg #[.int .u8 x.1, .int .u8 x.2.1, .int .i64 x.2.2.1, .int .i64 x.2.2.2.1, .int .i64 x.2.2.2.2]) (.agg #[.int .u8 y.1, .int .u8 y.2.1, .int .i64 y.2.2.1, .int .i64 y.2.2.2.1, .int .i64 y.2.2.2.2])).run Tryz.prog w = .ok (decide (x = y)) w := by
  obtain ⟨a, b, c, d, e⟩ := x
  obtain ⟨a', b', c', d', e'⟩ := y
  have u0 := Tryz.underlying5
  have u1 := Tryz.underlying3
  have u2 := Tryz.underlying2
  have hS : Tryz.prog.underlying 33 = some (.struct (Tryz.prog.fieldsOf 33)) := by kernel_rfl
  have hp : Tryz.prog.stoodInHeld 33 = false := by kernel_rfl
  rw [show (10000 : Nat) = 9999 + 1 from rfl, run_equalIn_agg w 9999 33 _ _ hS hp]
  simp only [Program.fieldsOf, Tryz.underlying33]
  go_simp
  by_cases h1 : a = a' <;> by_cases h2 : b = b' <;> by_cases h3 : c = c' <;> by_cases h4 : d = d' <;> by_cases h5 : e = e' <;> simp [h1, h2, h3, h4, h5]
set_option maxHeartbeats 16000000 in
theorem walk (a0 : Option Addr) (len0 cap0 : Nat) (z0 : List Int) (w : World) (w0 : IsRow .u8 w a0 len0 cap0 z0) (R : GlRunes w) (T : PwTab w) (T2 : EvNames w) (T3 : EvSteps w) (T1 : MaPlaces w) :
    Calls Tryz.prog 3 #[.slice a0 len0 cap0] w fun e w' => e = .returned (.bool true) ∧ Below w.heap.size w w' := by
  have U1 : 0 < w.heap.size := cell_lt (T1 0 (by omega)).1
  have U2 : 3 < w.heap.size := cell_lt (T2 0 (by omega))
  have U3 : 2 < w.heap.size := cell_lt (T3 0 (by omega)).1
  have LV := hid (fun w2 (hb : Below w.heap.size w w2) => lives21 w2 (T1.at hb) (T2.at hb) (T3.at hb) (R.at hb) (T.at hb) (by have := hb.size; omega) (by have := hb.size; omega) (by have := hb.size; omega))
  clear R T T1 T2 T3 U1 U2 U3
  obtain ⟨s, hI⟩ := Inp.of w0
  have I := hid hI
  clear w0 hI
  by_cases hbig : (1500 : Int) < len0
  · go_enter Tryz.func3, Tryz.ntmps3
    go_wp2_with fail
    refine (LV.out w (Below.refl _ _)).mono ?_
    rintro e w2 ⟨rfl, hb⟩
    have B2 := hid hb
    clear hb
    go_wp2_with fail
    refine (LV.out w2 B2.out).mono ?_
    rintro e w3 ⟨rfl, hb3⟩
    have B3 := hid (B2.out.trans (hb3.mono B2.out.size))
    clear hb3 B2 LV
    go_wp2
    go_ret
    exact ⟨rfl, B3.out⟩
  · have hsm : len0 ≤ 1500 := by omega
    obtain ⟨i0, hi, hz0, hz1, hz2⟩ := info_parts infoB
    have HI := hid (And.intro hi (And.intro hz0 (And.intro hz1 hz2)))
    clear hi hz0 hz1 hz2
    go_enter Tryz.func3, Tryz.ntmps3
    go_wp2_with fail
    refine (LV.out w (Below.refl _ _)).mono ?_
    rintro e w2 ⟨rfl, hb⟩
    have B2 := hid hb
    clear hb LV
    have O0 := hid (World.ownsRow_made (base := w2.heap.size) (e := 5) (size := 1) w2 #[] 0 (Nat.le_refl _) (by omega) rfl)
    have EQ := fun (a b c a' b' c' : Int) (w : World) => equalIn_cf a b c a' b' c' w
    have APP : Hid (∀ (v' : Value) (w3 : World), w3.ownsRow w2.heap.size 5 1 v' (0 + len0) ([] ++ bv s) → v' ≠ .slice none 0 0 → Below w2.heap.size w2 w3 → ∃ g c, v' = .slice (some ⟨g, 0, none⟩) len0 c ∧ OwB w2 s g c w3) := hid (fun v' w3 h hv hb => by
      rw [Nat.zero_add, List.nil_append, ← I.out.size] at h
      have := OwB.of h hv hb
      rw [I.out.size] at this
      exact this)
    have BA := hid ((Below.refl w2.heap.size w2).alloc (Nat.le_refl _) (.cells #[] 5))
    go_upto_region 3 with (fail)
    go_cut [3] from 3 to 3 (fun s3 wc => ∃ g c, s3 = .slice (some ⟨g, 0, none⟩) len0 c ∧ Hid (OwB w2 s g c wc))
    case first =>
      rcases I.out.at' with ⟨rfl, rfl, rfl⟩ | ⟨ad, rfl, hat⟩
      · have A1 := hid (APP.out (.slice (some ⟨w2.heap.size, 0, none⟩) 0 0) _ (by
          have hs : bv s = [] := List.length_eq_zero_iff.1 (by rw [bv_len]; exact I.out.size)
          rw [hs]; exact O0.out) (by simp) BA.out)
        clear APP BA
        go_wp2_with (at_builtin; refine wpList_append_own_none rfl _ _ 22 rfl w2.heap.size 5 i0 1 Tryz.underlying22 HI.out.1 _ _ _ rfl O0.out rfl ?_)
        clear O0
        go_wp2_with fail
        go_meet
        obtain ⟨g, c, e1, e2⟩ := A1.out
        exact ⟨g, c, e1, hid e2⟩
      · have HAT := hid (fun j u hj => hat _ (B2.out.alloc B2.out.size (.cells #[] 5)) j u hj)
        clear hat
        go_wp2_with (at_builtin; refine wpList_append_own _ rfl _ _ 22 rfl w2.heap.size 5 i0 _ 1 1 Tryz.underlying22 HI.out.1 HI.out.2.1 HI.out.2.2.1 HI.out.2.2.2 rfl (by decide) _ _ _ rfl O0.out ad len0 cap0 (bv s) rfl ?c0 HAT.out (bv_ones s) ?c3 ?c4 ?c5 ?_)
        case c0 => rw [bv_len, I.out.size, Nat.mul_one]
        case c3 => unfold maxLen; omega
        case c4 => omega
        case c5 => simp
        intro v' w3 hown hgrow hne
        have A1 := hid (APP.out v' w3 (by simpa using hown) (fun e => by first | exact hne e | exact absurd (hne.1 e).1 (by simp)) (BA.out.grown hgrow (by simp) (fun k hk => by simp [Value.ownBlock] at hk; omega)))
        clear APP BA O0 HAT hown hgrow hne
        obtain ⟨g, c, rfl, e2⟩ := A1.out
        have E2 := hid e2
        clear A1 e2
        go_wp2_with fail
        go_meet
        exact ⟨g, c, rfl, E2⟩
    case rest =>
      obtain ⟨g, c, rfl, OB⟩ := hcut
      clear O0 APP BA EQ
      have hsz := I.out.size
      have BC := hid (B2.out.trans (OB.out.bl.mono B2.out.size))
      have SP := hid (sparse wc g 0 s (some ⟨g, 0, none⟩) c OB.out.sc OB.out.cm (fun _ => ⟨rfl, OB.out.gl, OB.out.by'⟩) (by omega))
      rw [hsz] at SP
      have CO : Hid (∀ w6, Below wc.heap.size wc w6 → (convert 22 9 (.slice (some ⟨g, 0, none⟩) len0 c)).run Tryz.prog w6 = .ok (.string s) w6) := hid (fun w6 hb => by
        have h := Lib.run_convert_whole (P := Tryz.prog) w6 22 5 9 Tryz.underlying22 Tryz.underlying5 Tryz.underlying9 g 0 s (fun j hj => (hb.cell (p := ⟨g, 0 + j, none⟩) OB.out.gl).trans (OB.out.by' j hj)) c
        rw [hsz] at h
        exact h)
      have hs1 : s.size ≤ 100000 := by omega
      have CV := hid I.out.cv
      have RPA := hid (fun w5 => rparse w5 s hs1)
      have EQ := hid (equalIn_cf (cfP s) (cfM s) (cfG s) (cfP s) (cfM s) (cfG s))
      have LE := hid (fun n => goS_len s (cfM s) (cfG s) n)
      unfold SpP at SP
      unfold RqP at RPA
      generalize cfP s = P at *
      generalize cfM s = M at *
      generalize cfG s = G at *
      clear OB hs1 hsz I HI
      go_wp2_with fail
      refine SP.out.mono ?_
      rintro e w4 ⟨n, v, hn, rfl, hr, hb⟩
      have HN := hid hn
      obtain ⟨L, hL⟩ : ∃ L, L = (goS s M G n).2 := ⟨_, rfl⟩
      rw [← hL] at hr
      have hm := LE.out n
      rw [← hL] at hm
      have HL := hid hL
      have RD := hid hr
      obtain ⟨a4, c4, rfl, -⟩ := hr
      have B4 := hid (hb.alloc hb.size (.cells #[.int .i64 P, .int .i64 M, .int .i64 G] 25))
      have X4 := hid (heap_alloc_new w4 (.cells #[.int .i64 P, .int .i64 M, .int .i64 G] 25))
      have S4 := hid (show w4.heap.size < (w4.alloc (.cells #[.int .i64 P, .int .i64 M, .int .i64 G] 25)).heap.size by simp)
      have RD := hid (RD.out.below ((Below.refl w4.heap.size w4).alloc (Nat.le_refl _) (.cells #[.int .i64 P, .int .i64 M, .int .i64 G] 25)))
      clear hn hL hb SP LE
      go_upto_region 5 with (fail)
      generalize hx5 : w4.heap.size = X at *
      generalize w4.alloc (.cells #[.int .i64 P, .int .i64 M, .int .i64 G] 25) = w5 at *
      clear hx5
      have CV5 := CV.out w5 (BC.out.trans (B4.out.mono BC.out.size))
      have RP := hid (RPA.out w5)
      clear RPA
      go_wp2_with fail
      refine RP.out.mono ?_
      rintro e w6 ⟨n', v', hn', rfl, hr', hb'⟩
      obtain rfl := HN.out.unique hn'
      rw [← HL.out] at hr'
      have RE := hid hr'
      obtain ⟨a6, c6, rfl, -⟩ := hr'
      have B6 := hid (B4.out.trans (hb'.mono B4.out.size))
      have RD6 := hid (RD.out.below hb')
      have X6 := hid ((hb'.block _ S4.out).trans X4.out)
      have CO6 := CO.out w6 B6.out
      have CV6 := CV.out w6 (BC.out.trans (B6.out.mono BC.out.size))
      have EQ6 := EQ.out
      simp only [decide_true] at EQ6
      obtain ⟨⟨q0, q1, q2⟩, _⟩ := cells3 X6.out
      have BW := hid (BC.out.trans (B6.out.mono BC.out.size))
      obtain ⟨m, hmm⟩ : ∃ m, m = L.length := ⟨_, rfl⟩
      rw [← hmm] at hm
      simp only [← hmm]
      have HM := hid hmm
      have hm2 : ¬ (2000 : Int) < (m : Int) := by omega
      clear hmm hn' hb' B4 B6 X4 X6 S4 RD RP CV CO CV5 EQ HN HL
      go_upto_region 8 with (fail)
      clear q0 q1 q2 CO6 CV6 EQ6
      go_wp2_with fail
      go_loopw [62] (fun v62 wr => ∃ i : Nat, i ≤ m ∧ v62 = .int .i64 i ∧ Hid (Below w6.heap.size w6 wr)) (fun v62 _ => m - (intOf v62).toNat)
      case atStart => exact ⟨0, by omega, rfl, hid (Below.refl _ _)⟩
      case round =>
        obtain ⟨i, him, rfl, BR⟩ := hrel
        by_cases hlt : i < m
        · have hlt2 : (i : Int) < (m : Int) := by omega
          obtain ⟨d1, d2, e1, _, _, h4⟩ := RD6.out.below BR.out
          simp only [Value.slice.injEq, true_and] at e1
          obtain ⟨rfl, rfl⟩ := e1
          obtain ⟨g4, o4, rfl, _, hc4⟩ := h4 (by have := HM.out; omega)
          obtain ⟨p0, p1, p2, p3, p4⟩ := hc4 i (by have := HM.out; omega)
          obtain ⟨d1, d2, e1, _, _, h6⟩ := RE.out.below BR.out
          simp only [Value.slice.injEq, true_and] at e1
          obtain ⟨rfl, rfl⟩ := e1
          obtain ⟨g6, o6, rfl, _, hc6⟩ := h6 (by have := HM.out; omega)
          obtain ⟨r0, r1, r2, r3, r4⟩ := hc6 i (by have := HM.out; omega)
          have QS := equalIn_st (spAt L i) (spAt L i)
          simp only [decide_true] at QS
          generalize spAt L i = x at *
          obtain ⟨x0, x1, x2, x3, x4⟩ := x
          simp only at p0 p1 p2 p3 p4 r0 r1 r2 r3 r4 QS
          clear hc4 hc6 h4 h6
          have B7 := hid (BR.out.trans (Quiet.below (w := wr) ⟨1, rfl⟩ w6.heap.size))
          go_wp2_with fail
          go_region_with (fail)
          all_goals
            go_wp2_with fail
            go_roundw
            case rel => exact ⟨i + 1, by omega, by go_num, B7⟩
            case measure => simp [intOf]; omega
        · obtain rfl : i = m := by omega
          have FN := hid (BW.out.trans (BR.out.mono BW.out.size))
          clear BR BW RD6 RE
          go_wp2
          go_ret
          exact ⟨rfl, FN.out⟩
end Go.Proofs.YtpgamdnkdoebgaaGreatDoor.scriptParses
