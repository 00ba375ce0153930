/- The document's Idle by value: In, Less, within, New, free. -/
import Derived.Test.YtnabikoieolfcaaDoorInts
import Derived.Test.YtnabikoieolfcaaDoorHasI
import Derived.Test.YtnabikoieolfcaaDoorBig
import Derived.Deep.QuietTactic
import Derived.Laws.AppendOwnNone
import Derived.Maps.AppendAt
namespace Go.Proofs.YtnabikoieolfcaaDoor
set_option linter.unusedVariables false
set_option linter.unusedSimpArgs false
open Go.RowKit
/-- What an append is handed: so many cells, of m elements. -/
def Handed (w : World) (vy : Value) (m : Nat) (news : List Value) : Prop :=
  ∃ a c, vy = .slice a m c ∧ ((a = none ∧ m = 0 ∧ c = 0 ∧ news = []) ∨ ∃ ad, a = some ad ∧ ∀ j u, news[j]? = some u → w.cell? (ad.add j) = some u)
theorem wpList_app {P : Program} {w : World} {ops : Array Oper} {rest : List Oper} {o : Oper} {a : Act} {Q : Exit → Act → World → Prop} (hgd : o.guard = none) (s x : Operand) (t : TypeId)
    (ho : o.op = .call { callee := .builtin .append, args := #[s, x], argTypes := #[t, t] })
    (base : Nat) (e : TypeId) (i : TypeInfo) (z : Value) (size bytes : Nat) (ht : P.underlying t = some (.slice e)) (hi : P.info? e = some i) (hz : i.zero = some z)
    (hsize : i.size = size) (hby : i.bytes = bytes) (hzs : z.cells.size = size) (hsz : 0 < size)
    (v : Value) (n : Nat) (xs : List Value) (hs : a.eval s = v) (hown : w.ownsRow base e size v n xs)
    (m : Nat) (news : List Value) (vy : Value) (hx : a.eval x = vy) (hr : Handed w vy m news) (hl : news.length = m * size) (h1 : ∀ u ∈ news, u.oneCell' = true)
    (h63 : n + m ≤ maxLen) (hbytes : (n + m) * bytes ≤ 140737488355328) (hbase : base ≤ w.heap.size)
    (h : ∀ v' w', w'.ownsRow base e size v' (n + m) (xs ++ news) → w.grownBy w' v.ownBlock → wpList P ops Q rest (a.put o.dst v') w') :
    wpList P ops Q (o :: rest) a w := by
  obtain ⟨ad, c, rfl, ⟨rfl, rfl, rfl, rfl⟩ | ⟨ad', rfl, hc⟩⟩ := hr
  · exact wpList_append_own_none hgd s x t ho base e i size ht hi v n xs hs hown hx (h v w (by simpa using hown) (.refl _ _))
  · exact wpList_append_own w hgd s x t ho base e i z size bytes ht hi hz hsize hby hzs hsz v n xs hs hown ad' m c news hx hl hc h1 h63 hbytes hbase (fun v' w' h1 h2 _ => h v' w' h1 h2)
theorem Reads.handed {w : World} {v : Value} {S : List Int} (h : Reads w v S) {w' : World} (hb : Below w.heap.size w w') : Handed w' v S.length (S.map (Value.int .i64)) := by
  obtain ⟨a, c, rfl, hc, hr⟩ := h.of_below hb
  refine ⟨a, c, rfl, ?_⟩
  rcases hc.2.2 with ⟨rfl, rfl⟩ | ⟨ad, rfl⟩
  · have : S = [] := List.length_eq_zero_iff.1 (by omega)
    subst this
    exact .inl ⟨rfl, rfl, rfl, rfl⟩
  · refine .inr ⟨ad, rfl, fun j u hj => ?_⟩
    have hpos : 0 < S.length := by
      rcases Nat.eq_zero_or_pos S.length with h | h
      · rw [List.length_eq_zero_iff] at h; subst h; simp at hj
      · exact h
    obtain ⟨g', off', h2, h3, h4⟩ := hr hpos
    simp only [Option.some.injEq] at h2
    subst h2
    exact news_of h4 j u hj
theorem ownP_kept {w w' : World} {base sz n : Nat} {t : TypeId} {v : Value} {xs : List Value} (h : w.ownsRow base t sz v n xs) (hb : ∀ k, v.ownBlock = some k → w'.heap[k]? = w.heap[k]?) : w'.ownsRow base t sz v n xs := by
  obtain ⟨h0, h1 | ⟨g, cap, cur, h1, h2, h3, h4⟩⟩ := h
  · exact ⟨h0, .inl h1⟩
  · exact ⟨h0, .inr ⟨g, cap, cur, h1, h2, by rw [hb g (by rw [h1]; rfl)]; exact h3, h4⟩⟩
theorem readsP {w : World} {base n : Nat} {v : Value} {xs : List Int} (h : w.ownsRow base 3 1 v n (xs.map (Value.int .i64))) (hn : xs.length = n) : Reads w v xs := by
  subst hn
  exact Owns.reads h
theorem infoI13 : (Tryd.prog.info? 3).map (fun i => (i.zero, i.size, i.bytes)) = some (some (.int .i64 0), 1, 8) := by kernel_rfl
theorem bl_drw13 (w : World) (B : Nat) : Below B w w.drew := Quiet.below ⟨1, rfl⟩ _
theorem bl_al13 (w : World) (o : Obj) : Below w.heap.size w (w.alloc o) := (Below.refl _ _).alloc (Nat.le_refl _) _
theorem i_drop {S : List Int} {k : Nat} (h : k < S.length) : S.drop k = S.getD k 0 :: S.drop (k + 1) := by
  rw [List.drop_eq_getElem_cons h]
  simp [List.getElem?_eq_getElem h]
theorem i_take {S : List Int} {k : Nat} (h : k < S.length) : S.take (k + 1) = S.take k ++ [S.getD k 0] := by
  rw [List.take_add_one, List.getElem?_eq_getElem h]
  simp [List.getElem?_eq_getElem h]
set_option maxHeartbeats 4000000 in
theorem rin (w : World) (v : Value) (S : List Int) (h : Reads w v S) (hl : S.length ≤ 1000) (g : Int) (r : Bool) (hr : hasB g S = r) :
    Calls Tryd.prog 13 #[v, .int .i64 g] w fun e w' => e = .returned (.bool r) ∧ w' = w := by
  subst hr
  have H := hid h
  obtain ⟨a, c, rfl, _, _⟩ := h
  obtain ⟨n, hn⟩ : ∃ n, n = S.length := ⟨_, rfl⟩
  have HN := hid hn
  rw [← hn] at hl ⊢
  clear hn
  go_enter Tryd.func13, Tryd.ntmps13
  go_wp2_with fail
  go_loopw [9] (fun i wr => ∃ k : Nat, k ≤ n ∧ i = .int .i64 k ∧ Hid (hasB g S = hasB g (S.drop k)) ∧ wr = w) (fun i _ => n - (intOf i).toNat)
  case atStart => exact ⟨0, by omega, rfl, hid (by simp), rfl⟩
  case round =>
    obtain ⟨k, hk, rfl, F, rfl⟩ := hrel
    by_cases hlt : k < n
    · obtain ⟨a', c', e, _, hh⟩ := H.out
      simp only [Value.slice.injEq] at e
      obtain ⟨rfl, e2, rfl⟩ := e
      clear e2
      obtain ⟨q, off, rfl, _, hc⟩ := hh (by have := HN.out; omega)
      have h0 := hc k (by have := HN.out; omega)
      have T := hid (i_drop (S := S) (k := k) (by have := HN.out; omega))
      generalize S.getD k 0 = x at *
      clear hh hc
      by_cases hxf : x = g
      · subst hxf
        have E := hid (show hasB x S = true by rw [F.out, T.out]; simp [hasB])
        clear F T
        go_wp2
        go_ret
        exact ⟨(show Ending.returned (.bool true) = _ by rw [E.out]), rfl⟩
      · have hne : (x == g) = false := by simpa using hxf
        have F2 := hid (show hasB g S = hasB g (S.drop (k + 1)) by
          rw [F.out, T.out]
          have : ¬ g = x := fun e => hxf e.symm
          simp [hasB, this])
        clear F T hxf
        go_wp2_with fail
        go_roundw
        case rel => exact ⟨k + 1, by omega, by go_num, F2, trivial⟩
        case measure => simp [intOf]; omega
    · obtain rfl : k = n := by omega
      have E := hid (show hasB g S = false by
        have := F.out
        rw [List.drop_eq_nil_of_le (by have := HN.out; omega)] at this
        rw [this]; simp [hasB])
      clear F
      go_wp2
      go_ret
      exact ⟨(show Ending.returned (.bool false) = _ by rw [E.out]), rfl⟩
/-- A row without a number. -/
def butI (g : Int) (S : List Int) : List Int := S.filter fun x => !(x == g)
def LsPost (g : Int) (S : List Int) (w : World) (e : Ending) (w' : World) : Prop := ∃ v, e = .returned v ∧ Reads w' v (butI g S) ∧ Below w.heap.size w w' ∧ ∀ q, v.ownBlock = some q → w.heap.size ≤ q ∧ q < w'.heap.size
set_option maxHeartbeats 4000000 in
theorem rless (w : World) (v : Value) (S : List Int) (h : Reads w v S) (hl : S.length ≤ 1000) (g : Int) :
    Calls Tryd.prog 35 #[v, .int .i64 g] w (LsPost g S w) := by
  have H := hid h
  obtain ⟨a, c, rfl, _, _⟩ := h
  obtain ⟨n, hn⟩ : ∃ n, n = S.length := ⟨_, rfl⟩
  have HN := hid hn
  rw [← hn] at hl ⊢
  clear hn
  obtain ⟨i0, hi, hz0, hz1, hz2⟩ := info_parts infoI13
  have HI := hid (And.intro hi (And.intro hz0 (And.intro hz1 hz2)))
  clear hi hz0 hz1 hz2
  go_enter Tryd.func35, Tryd.ntmps35
  go_wp2_with fail
  go_loopw [5, 7, 10] (fun v5 v7 i wr => ∃ (k m : Nat) (a3 : Option Addr) (c3 : Nat), k ≤ n ∧ m ≤ k ∧ .slice a3 m c3 = v5 ∧ i = .int .i64 k ∧ Hid ((butI g (S.take k)).length = m) ∧ Hid (wr.ownsRow w.heap.size 3 1 (.slice a3 m c3) m ((butI g (S.take k)).map (Value.int .i64))) ∧ Hid (Below w.heap.size w wr)) (fun _ _ i _ => n - (intOf i).toNat)
  case atStart => exact ⟨0, 0, none, 0, by omega, by omega, rfl, rfl, hid (by simp [butI]), hid ⟨by simp [butI], .inl ⟨rfl, rfl⟩⟩, hid (Below.refl _ _)⟩
  case round =>
    obtain ⟨k, m, a3, c3, hk, hmk, rfl, rfl, LN, OW, BR⟩ := hrel
    by_cases hlt : k < n
    · obtain ⟨a', c', e, _, hh⟩ := H.out.of_below BR.out
      simp only [Value.slice.injEq] at e
      obtain ⟨rfl, e2, rfl⟩ := e
      clear e2
      obtain ⟨q, off, rfl, _, hc⟩ := hh (by have := HN.out; omega)
      have h0 := hc k (by have := HN.out; omega)
      have T := hid (i_take (S := S) (k := k) (by have := HN.out; omega))
      generalize S.getD k 0 = x at *
      clear hh hc
      by_cases hxf : x = g
      · subst hxf
        have hne : (x != x) = false := by simp
        have FE := hid (show butI x (S.take (k + 1)) = butI x (S.take k) by rw [T.out, butI, List.filter_append]; simp [butI])
        clear T
        go_wp2_with fail
        go_roundw
        case rel => exact ⟨k + 1, m, a3, c3, by omega, by omega, rfl, by go_num, hid (by rw [FE.out]; exact LN.out), hid (by rw [FE.out]; exact OW.out), BR⟩
        case measure => simp [intOf]; omega
      · have hne : (x != g) = true := by simpa using hxf
        have FE := hid (show butI g (S.take (k + 1)) = butI g (S.take k) ++ [x] by rw [T.out, butI, List.filter_append]; simp [butI, hxf])
        clear T hxf
        have hO4 := OW.out.alloc (.cells #[.int .i64 x] 3)
        have hn4 := hid (heap_alloc_new wr (.cells #[.int .i64 x] 3))
        have hge := BR.out.size
        go_wp2_with (at_builtin; refine wpList_app rfl _ _ 26 rfl w.heap.size 3 i0 (.int .i64 0) 1 8 Tryd.underlying26 HI.out.1 HI.out.2.1 HI.out.2.2.1 HI.out.2.2.2 rfl (by decide) _ _ _ rfl hO4 1 [.int .i64 x] _ rfl ⟨_, _, rfl, .inr ⟨⟨wr.heap.size, 0, none⟩, rfl, ?d0⟩⟩ ?d1 ?d2 ?d3 ?d4 ?d5 ?_)
        case d0 =>
          intro j u hj
          rw [Addr.add_lit]
          match j, hj with
          | 0, hj => simp at hj; subst hj; exact blk_cell hn4.out rfl
          | j + 1, hj => simp at hj
        case d1 => rfl
        case d2 => intro u hu; simp at hu; subst hu; rfl
        case d3 => unfold maxLen; omega
        case d4 => omega
        case d5 => simp; omega
        intro v5 w5 own5 grown5
        have hlt5 := fun q hq => (World.ownsRow.lt hO4 q hq).1
        obtain ⟨a5, c5, rfl⟩ : ∃ a c, v5 = .slice a (m + 1) c := by
          obtain ⟨q0, ⟨q1, q2⟩ | ⟨q, cap, cur, q1, _⟩⟩ := own5
          · omega
          · exact ⟨_, _, q1⟩
        have B5 := hid ((BR.out.alloc hge (.cells #[.int .i64 x] 3)).grown grown5 (by simp; omega) (fun q hq => hlt5 q hq))
        have L5 := hid (show (butI g (S.take (k + 1))).length = m + 1 by rw [FE.out, List.length_append, LN.out]; rfl)
        have O5 := hid (show w5.ownsRow w.heap.size 3 1 (.slice a5 (m + 1) c5) (m + 1) ((butI g (S.take (k + 1))).map (Value.int .i64)) by
          rw [FE.out, List.map_append]; exact own5)
        clear own5 grown5 hO4 hn4 OW BR FE LN hlt5 hge
        go_wp2_with fail
        go_roundw
        case rel => exact ⟨k + 1, m + 1, a5, c5, by omega, by omega, rfl, by go_num, L5, O5, B5⟩
        case measure => simp [intOf]; omega
    · obtain rfl : k = n := by omega
      rw [List.take_of_length_le (by have := HN.out; omega)] at LN OW
      have FIN := hid (show LsPost g S w (.returned (.slice a3 m c3)) wr from ⟨_, rfl, readsP OW.out LN.out, BR.out, fun q hq => World.ownsRow.lt OW.out q hq⟩)
      clear LN OW BR
      go_wp2
      go_ret
      exact FIN.out
end Go.Proofs.YtnabikoieolfcaaDoor
