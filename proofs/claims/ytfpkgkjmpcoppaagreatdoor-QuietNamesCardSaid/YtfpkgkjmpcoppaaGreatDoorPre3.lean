/- What other texts are built of: Ints64, Mask4, Mask5. -/
import Derived.Test.YtfpkgkjmpcoppaaGreatDoorPre1
import Derived.WalkLawsBesides
import Derived.WalkSpells
import Derived.OwnWalk
import Derived.Outline
import Derived.Deep.OwnRows
import Derived.Test.YtfpkgkjmpcoppaaGreatDoorPre2
/-! Slices of uint64: what one reads as; slices.Clone at []uint64 (XInts with another type). -/
namespace Go.Proofs.YtfpkgkjmpcoppaaGreatDoor.U64
set_option linter.unusedVariables false
set_option linter.unusedSimpArgs false
open Go.RowKit

theorem infoInt : (Tryz.prog.info? 30).map (fun i => (i.zero, i.size, i.bytes)) = some (some (.int .u64 0), 1, 8) := by kernel_rfl

/-- The value v is a slice that reads as the numbers xs. -/
def Reads (w : World) (v : Value) (xs : List Int) : Prop :=
  ∃ a c, v = .slice a xs.length c ∧ (xs.length ≤ c ∧ c ≤ maxLen ∧ ((a = none ∧ c = 0) ∨ ∃ ad, a = some ad)) ∧ (0 < xs.length → ∃ g off, a = some ⟨g, off, none⟩ ∧ g < w.heap.size ∧ ∀ j, j < xs.length → w.cell? ⟨g, off + j, none⟩ = some (.int .u64 (xs.getD j 0)))
/-- The value v is a slice of the call's own, from block 'base' on, that holds the numbers xs. -/
def Owns (w : World) (base : Nat) (v : Value) (xs : List Int) : Prop := w.ownsRow base 30 1 v xs.length (xs.map (Value.int .u64))

theorem cell_lt {w : World} {a : Addr} {v : Value} (h : w.cell? a = some v) : a.block < w.heap.size := by
  rcases Nat.lt_or_ge a.block w.heap.size with h' | h'
  · exact h'
  · simp [World.cell?, Array.getElem?_eq_none h'] at h
theorem Owns.reads {w : World} {base : Nat} {v : Value} {xs : List Int} (h : Owns w base v xs) : Reads w v xs := by
  obtain ⟨h0, ⟨h1, h2⟩ | ⟨g, cap, cur, h1, h2, h3, h4, h5, h6, h7⟩⟩ := h
  · exact ⟨none, 0, by rw [h1, h2], ⟨by omega, by unfold maxLen; omega, .inl ⟨rfl, rfl⟩⟩, fun h => by omega⟩
  · refine ⟨_, _, h1, ⟨h4, h5, .inr ⟨_, rfl⟩⟩, fun h => ⟨g, 0, rfl, ?_, fun j hj => ?_⟩⟩
    · rw [Array.getElem?_eq_some_iff] at h3; exact h3.1
    · have e : (cur.toList.take (xs.length * 1))[j]? = cur.toList[j]? := by rw [List.getElem?_take, if_pos (by omega)]
      rw [h7] at e
      have e' : w.cell? ⟨g, 0 + j, none⟩ = cur.toList[j]? := by simp [World.cell?, h3]
      rw [e', ← e]
      simp [hj]
theorem Reads.below {w w' : World} {B : Nat} {v : Value} {xs : List Int} (h : Reads w v xs) (hb : Below B w w') (hB : ∀ g off c, v = .slice (some ⟨g, off, none⟩) xs.length c → g < B) : Reads w' v xs := by
  obtain ⟨a, c, rfl, h0, h1⟩ := h
  refine ⟨a, c, rfl, h0, fun h => ?_⟩
  obtain ⟨g, off, rfl, h2, h3⟩ := h1 h
  have hg := hB g off c rfl
  refine ⟨g, off, rfl, by have := hb.size; omega, fun j hj => ?_⟩
  rw [hb.cell (p := ⟨g, off + j, none⟩) hg]
  exact h3 j hj
theorem Reads.of_below {w w' : World} {v : Value} {xs : List Int} (h : Reads w v xs) (hb : Below w.heap.size w w') : Reads w' v xs := by
  obtain ⟨a, c, rfl, h0, h1⟩ := h
  refine ⟨a, c, rfl, h0, fun h => ?_⟩
  obtain ⟨g, off, rfl, h2, h3⟩ := h1 h
  refine ⟨g, off, rfl, by have := hb.size; omega, fun j hj => ?_⟩
  rw [hb.cell (p := ⟨g, off + j, none⟩) h2]
  exact h3 j hj
theorem Owns.mono {w : World} {base base' : Nat} {v : Value} {xs : List Int} (h : Owns w base v xs) (hb : base' ≤ base) : Owns w base' v xs := by
  obtain ⟨h0, h1 | ⟨g, cap, cur, h1, h2, h3⟩⟩ := h
  · exact ⟨h0, .inl h1⟩
  · exact ⟨h0, .inr ⟨g, cap, cur, h1, by omega, h3⟩⟩

theorem Owns.slice {w : World} {base : Nat} {v : Value} {xs : List Int} (h : Owns w base v xs) : ∃ a c, v = .slice a xs.length c := by
  obtain ⟨h0, ⟨h1, h2⟩ | ⟨g, cap, cur, h1, _⟩⟩ := h
  · exact ⟨none, 0, by rw [h1, h2]⟩
  · exact ⟨_, _, h1⟩
theorem Owns.slice3 {w : World} {base : Nat} {v : Value} {xs : List Int} (h : Owns w base v xs) : ∃ a m c, v = .slice a m c := by
  obtain ⟨a, c, h⟩ := h.slice; exact ⟨a, _, c, h⟩
theorem news_of {w : World} {g off : Nat} {xs : List Int} (hc : ∀ j, j < xs.length → w.cell? ⟨g, off + j, none⟩ = some (.int .u64 (xs.getD j 0))) :
    ∀ j u, (xs.map (Value.int .u64))[j]? = some u → w.cell? ((⟨g, off, none⟩ : Addr).add j) = some u := by
  intro j u hj
  rw [List.getElem?_map] at hj
  rcases hx : xs[j]? with _ | x
  · rw [hx] at hj; simp at hj
  · rw [hx] at hj
    obtain ⟨hlt, hx'⟩ := List.getElem?_eq_some_iff.1 hx
    have hcj := hc j hlt
    have he : (⟨g, off, none⟩ : Addr).add j = ⟨g, off + j, none⟩ := by
      by_cases hj0 : j = 0
      · subst hj0; simp [Addr.add]
      · simp [Addr.add, hj0]
    rw [he, hcj]
    simp only [Option.map_some, Option.some.injEq] at hj
    rw [← hj, List.getD_eq_getElem?_getD, hx]; rfl
theorem ones_of (xs : List Int) : ∀ u ∈ xs.map (Value.int .u64), u.oneCell' = true := by
  intro u hu
  obtain ⟨x, _, rfl⟩ := List.mem_map.1 hu
  rfl

/-- A slice of ints that came in reads as its numbers, in every later world too. -/
theorem row_reads {w : World} {a : Option Addr} {len cap : Nat} {zs : List Int} (h : IsRow .u64 w a len cap zs) :
    ∃ xs : List Int, xs = zs.take len ∧ xs.length = len ∧ ∀ w', Below w.heap.size w w' → Reads w' (.slice a len cap) xs := by
  have hlz : len ≤ zs.length := by rcases h with ⟨_, h, _⟩ | ⟨x, _, h1, _, h2, _⟩ <;> omega
  refine ⟨zs.take len, rfl, by simp; omega, fun w' hb => ?_⟩
  have hl : (zs.take len).length = len := by simp; omega
  have ho := h.open
  rcases h with ⟨rfl, rfl, rfl, rfl⟩ | ⟨⟨bx, off, spot⟩, rfl, h1, h2, h3, h4, _⟩
  · exact ⟨none, 0, by simp, ⟨by simp, by unfold maxLen; omega, .inl ⟨rfl, rfl⟩⟩, fun h => absurd h (by simp)⟩
  · refine ⟨_, _, by rw [hl], ⟨by omega, h2, .inr ⟨_, rfl⟩⟩, fun hpos => ?_⟩
    rw [hl] at hpos
    obtain ⟨bx', off', he, _, _, hc⟩ := ho.resolve_left (by omega)
    have h0 := hc w' hb 0 (by omega)
    refine ⟨bx', off', he, ?_, fun j hj => ?_⟩
    · exact cell_lt (a := ⟨bx', off' + 0, none⟩) h0
    · rw [hl] at hj
      rw [hc w' hb j hj]
      congr 2
      simp [List.getElem?_take, hj]

def ClonePost (xs : List Int) (w : World) (e : Ending) (w' : World) : Prop :=
  ∃ v', e = .returned v' ∧ Owns w' w.heap.size v' xs ∧ Below w.heap.size w w'

set_option maxHeartbeats 1000000 in
theorem clone_int (v : Value) (xs : List Int) (w : World) (hl : xs.length ≤ 10000000) (hr : Reads w v xs) :
    Calls Tryz.prog 119 #[v] w (ClonePost xs w) := by
  obtain ⟨a, c, rfl, _, h1⟩ := hr
  obtain ⟨i0, hi, hz0, hz1, hz2⟩ := info_parts infoInt
  have hnil := fun (w : World) => Lib.run_eql_slice_nil (P := Tryz.prog) w 124 30 a xs.length c 0 0 Tryz.underlying124
  rcases a with _ | ad
  · simp only [Option.isNone_none] at hnil
    have hx : xs.length = 0 := by
      rcases Nat.eq_zero_or_pos xs.length with h | h
      · exact h
      · obtain ⟨g, off, h2, _⟩ := h1 h
        exact absurd h2 (by simp)
    have HX := hid hx
    clear h1 hx
    go_enter Tryz.func119, Tryz.ntmps119
    go_wp2
    go_ret
    exact ⟨_, rfl, ⟨by simp, .inl ⟨rfl, HX.out⟩⟩, Below.refl _ _⟩
  · simp only [Option.isNone_some] at hnil
    have hown : (w.alloc (.cells #[] 30)).ownsRow w.heap.size 30 1 (.slice (some ⟨w.heap.size, 0, none⟩) 0 0) 0 [] := World.ownsRow_made w #[] 0 (Nat.le_refl _) (by omega) rfl
    have hnews : ∀ j u, (xs.map (Value.int .u64))[j]? = some u → (w.alloc (.cells #[] 30)).cell? (ad.add j) = some u := by
      intro j u hj
      have hpos : 0 < xs.length := by
        rcases Nat.eq_zero_or_pos xs.length with h | h
        · rw [List.length_eq_zero_iff] at h; subst h; simp at hj
        · exact h
      obtain ⟨g, off, h2, h3, h4⟩ := h1 hpos
      simp only [Option.some.injEq] at h2
      subst h2
      have := news_of h4 j u hj
      rw [← this]
      refine World.cell?_of_block (Below.heap_alloc _ _ _ ?_)
      exact cell_lt this
    have HN := hid hnews
    clear h1 hnews
    go_enter Tryz.func119, Tryz.ntmps119
    go_wp2_with (at_builtin; refine wpList_append_own _ rfl _ _ 124 rfl w.heap.size 30 i0 (.int .u64 0) 1 8 Tryz.underlying124 hi hz0 hz1 hz2 rfl (by decide) _ _ _ rfl hown ad xs.length c (xs.map (Value.int .u64)) rfl ?c0 ?c1 ?c2 ?c3 ?c4 ?c5 ?_)
    case c0 => simp
    case c1 => exact HN.out
    case c2 => exact ones_of xs
    case c3 => unfold maxLen; omega
    case c4 => omega
    case c5 => simp
    intro v' w1 hown' hgrow _
    have hbel : Below w.heap.size w w1 := ((Below.refl w.heap.size w).alloc (Nat.le_refl _) (.cells #[] 30)).grown hgrow (by simp) (fun k hk => by simp [Value.ownBlock] at hk; omega)
    clear hown hgrow hnil
    go_wp2
    go_ret
    exact ⟨_, rfl, hown', hbel⟩
end Go.Proofs.YtfpkgkjmpcoppaaGreatDoor.U64
/-! Masks: First, Words; what the chapter's example answers. -/
namespace Go.Proofs.YtfpkgkjmpcoppaaGreatDoor
set_option maxRecDepth 20000
set_option linter.unusedVariables false
set_option linter.unusedSimpArgs false
open Go.RowKit

theorem mnext_any (x y n : Nat) (W : List Nat) (i : Int) (w : World) (hm : Msk w x y n W) (T : DbTab w) :
    Calls Tryz.prog 250 #[.pointer (some ⟨x, 0, none⟩), .int .i64 i] w fun e w' => e = .returned (.int .i64 (nextI (bitAt W) n i)) ∧ w = w' := by
  by_cases h : (n : Int) - 1 ≤ i
  · exact mnext_late x y n W i w hm h
  · exact mnext_from x y n (max i (-1) + 1).toNat W i w hm T (by omega) (by omega)
set_option maxHeartbeats 400000 in
theorem mfirst_any (x y n : Nat) (W : List Nat) (w : World) (hm : Msk w x y n W) (T : DbTab w) :
    Calls Tryz.prog 223 #[.pointer (some ⟨x, 0, none⟩)] w fun e w' => e = .returned (.int .i64 (nextI (bitAt W) n (-1))) ∧ w = w' := by
  go_enter Tryz.func223, Tryz.ntmps223
  go_wp2_with fail
  refine (mnext_any x y n W (-1) _ hm T).mono ?_
  rintro e w' ⟨rfl, rfl⟩
  go_wp2
  go_ret
  exact ⟨rfl, rfl⟩
theorem nat_getD (W : List Nat) (j : Nat) (h : j < W.length) : (W.map Int.ofNat).getD j 0 = ((W.getD j 0 : Nat) : Int) := by
  simp [List.getD_eq_getElem?_getD, h]
theorem Msk.reads {w : World} {x y n : Nat} {W : List Nat} (h : Msk w x y n W) : ∃ cap, w.cell? ⟨x, 1, none⟩ = some (.slice (some ⟨y, 0, none⟩) W.length cap) ∧ U64.Reads w (.slice (some ⟨y, 0, none⟩) W.length cap) (W.map Int.ofNat) := by
  obtain ⟨cap, h1, hc, hc2⟩ := h.c1
  refine ⟨cap, h1, _, cap, by simp, ⟨by simpa using hc, hc2, .inr ⟨_, rfl⟩⟩, fun h0 => ⟨y, 0, rfl, h.sy, fun j hj => ?_⟩⟩
  have hj' : j < W.length := by simpa using hj
  rw [Nat.zero_add, h.cy j hj', nat_getD W j hj']
theorem lives02_words (W : List Nat) (f : Nat → Bool) (hl : W.length = 2) (hw : ∀ k, W.getD k 0 < 18446744073709551616) (h : bitAt W = upd (upd (fun _ => false) 3 true) 64 true) : W = [8, 1] := by
  have e : ∀ k, k < 2 → W.getD k 0 = [8, 1].getD k 0 := by
    intro k hk
    apply Nat.eq_of_testBit_eq
    intro j
    by_cases hj : j < 64
    · have h1 := congrFun h (64 * k + j)
      simp only [bitAt, show (64 * k + j) / 64 = k by omega, show (64 * k + j) % 64 = j by omega] at h1
      rw [h1]
      simp only [upd]
      have hk2 : k = 0 ∨ k = 1 := by omega
      rcases hk2 with rfl | rfl
      · have e1 : [8, 1].getD 0 0 = 2 ^ 3 := rfl
        rw [e1, Nat.testBit_two_pow]
        by_cases h3 : j = 3
        · subst h3; simp
        · rw [if_neg (by omega), if_neg (by omega)]; simp; omega
      · have e1 : [8, 1].getD 1 0 = 2 ^ 0 := rfl
        rw [e1, Nat.testBit_two_pow]
        by_cases h3 : j = 0
        · subst h3; simp
        · rw [if_neg (by omega), if_neg (by omega)]; simp; omega
    · have h1 := hw k
      have h2 : ∀ v : Nat, v < 18446744073709551616 → v.testBit j = false := fun v hv => by
        apply Nat.testBit_lt_two_pow
        have : (2 : Nat) ^ 64 ≤ 2 ^ j := Nat.pow_le_pow_right (by omega) (by omega)
        have e : (2 : Nat) ^ 64 = 18446744073709551616 := by decide
        omega
      rw [h2 _ h1, h2]
      have hk2 : k = 0 ∨ k = 1 := by omega
      rcases hk2 with rfl | rfl <;> decide
  match W, hl with
  | [a, b], _ =>
    have h0 := e 0 (by omega)
    have h1 := e 1 (by omega)
    simp at h0 h1
    rw [h0, h1]
theorem Only.low {b g B : Nat} {w0 w w' : World} (h : Only b g w w') (hb : B ≤ b) (hg : B ≤ g) (hB : Below B w0 w) (hs : B ≤ w.heap.size) : Below B w0 w' := hB.trans (h.below hb hg hs)

end Go.Proofs.YtfpkgkjmpcoppaaGreatDoor
/-! Masks: what stands while a law goes on. -/
namespace Go.Proofs.YtfpkgkjmpcoppaaGreatDoor
set_option maxRecDepth 20000
set_option linter.unusedVariables false
set_option linter.unusedSimpArgs false
open Go.RowKit

/-- A mask of the call's own; the table; nothing else has changed. -/
structure MSt (w0 : World) (x y n : Nat) (W : List Nat) (w : World) : Prop where
  m : Msk w x y n W
  B : Below w0.heap.size w0 w
  T : DbTab w
  hx : w0.heap.size ≤ x
  hy : w0.heap.size ≤ y
  hg : 7 < w0.heap.size
namespace MSt
variable {w0 w : World} {x y n : Nat} {W : List Nat}
theorem put (h : MSt w0 x y n W w) {W' : List Nat} {w' : World} (hm : Msk w' x y n W') (ho : Only x y w w') : MSt w0 x y n W' w' :=
  ⟨hm, ho.low h.hx h.hy h.B h.B.size, h.T.eq (ho.block _ h.T.lt (by have := h.hx; have := h.hg; omega) (by have := h.hy; have := h.hg; omega)), h.hx, h.hy, h.hg⟩
theorem below (h : MSt w0 x y n W w) {w' : World} (hb : Below w.heap.size w w') : MSt w0 x y n W w' :=
  ⟨h.m.below hb h.m.sx h.m.sy, h.B.trans (hb.mono h.B.size), h.T.at hb, h.hx, h.hy, h.hg⟩
theorem quiet (h : MSt w0 x y n W w) {w' : World} (q : Quiet w w') : MSt w0 x y n W w' := h.below (q.below _)
end MSt
theorem mnew_st (n : Int) (m : Nat) (hm : (m : Int) = min (max n 0) 4096) (w0 w : World) (T : DbTab w0) (B : Below w0.heap.size w0 w) :
    Calls Tryz.prog 71 #[.int .i64 n] w fun e w' => ∃ x y W, e = .returned (.pointer (some ⟨x, 0, none⟩)) ∧ MSt w0 x y m W w' ∧ bitAt W = fun _ => false :=
  (mnew_any n m hm w).mono fun e w' ⟨he, h1, h2, h3⟩ => ⟨_, _, _, he, ⟨h1, B.trans (h2.mono B.size), T.at (B.trans (h2.mono B.size)), by have := B.size; omega, B.size, T.lt⟩, by funext i; exact bitAt_zero _ _⟩

/-- Put, whatever it is asked. -/
theorem mkput_any (x y n : Nat) (W : List Nat) (i : Int) (w : World) (hm : Msk w x y n W) :
    Calls Tryz.prog 110 #[.pointer (some ⟨x, 0, none⟩), .int .i64 i] w fun e w' => ∃ b W', e = .returned (.bool b) ∧ Msk w' x y n W' ∧ Only x y w w' := by
  by_cases h : i < 0 ∨ (n : Int) ≤ i
  · exact (put_out x y n W i w hm h).mono fun e w' ⟨he, hw⟩ => ⟨false, W, he, hw ▸ hm, hw ▸ Only.refl _ _ _⟩
  · obtain ⟨k, rfl⟩ : ∃ k : Nat, i = k := ⟨i.toNat, by omega⟩
    rcases hb : bitAt W k with _ | _
    · exact (put_yes x y n W k w hm (by omega) hb).mono fun e w' ⟨W', he, h1, _, h2⟩ => ⟨true, W', he, h1, h2⟩
    · exact (put_no x y n W k w hm (by omega) hb).mono fun e w' ⟨he, hq⟩ => ⟨false, W, he, hm.quiet hq, Only.of_quiet' hq⟩
end Go.Proofs.YtfpkgkjmpcoppaaGreatDoor
