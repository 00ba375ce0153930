/- The contract of Batch.Front, continued: the walk of it. -/
import Derived.Test.YtpmggkngakdkhaaFront
namespace Go.Proofs.Ytpmggkngakdkhaa
set_option linter.unusedVariables false
set_option linter.unusedSimpArgs false
open Go.RowKit

theorem front_fin {p : Nat} {r : Option Nat} {g : Nat} {pre zs : List Int} {w w5 w6 : World} (ho : OnlyO p r w w5) (ho2 : OnlyO p (some g) w5 w6) (hr : some g = r ∨ ∀ k, some g = some k → w.heap.size ≤ k) (hb : Bat0 w6 p (some g) pre zs) (hp : pre.length ≤ 3 * zs.length + 3) : Left p r zs w w6 :=
  ⟨some g, ⟨pre, hb, hp⟩, ho.trans ho2 (by rcases hr with h | h; exact .inl h; exact .inr h), hr⟩
theorem infoSize : (Try.prog.info? 3).map (·.size) = some 1 := by kernel_rfl

set_option maxHeartbeats 2000000 in
theorem front_none (p : Nat) (r : Option Nat) (xs : List Int) (a : Option Addr) (c : Nat) (w : World) (hb : Bat w p r xs) :
    Calls Try.prog 12 #[.pointer (some ⟨p, 0, none⟩), .slice a 0 c] w (PutPost p r xs w) := by
  obtain ⟨pre, hb0, hpl⟩ := hb
  obtain ⟨v, hp, ho, hrv⟩ := hb0.h
  have hlen := hb0.len
  have k1 : w.cell? ⟨p, 1, none⟩ = some (.int .i64 pre.length) := by simp [World.cell?, hp]
  have f1 : w.frozen? ⟨p, 1, none⟩ = false := by simp [World.frozen?, hp]
  have hpb : pre.length ≤ 4000000 := by omega
  have H1 := hid (hb0.head rfl hlen pre.length rfl)
  have HPL := hid hpl
  clear hb0 hp ho hrv hlen hpl
  go_enter Try.func12, Try.ntmps12
  go_wp2_with fail
  refine (row0 p r pre xs _ H1.out).mono ?_
  rintro e w5 ⟨v5, rfl, ⟨a5, c5, rfl, _, _⟩, hq5⟩
  have FIN : Hid (PutPost p r xs w (.returned (.tuple #[])) w5) := ⟨rfl, r, ⟨pre, H1.out.quiet hq5, HPL.out⟩, (OnlyO.set w 1 _).trans (OnlyO.quiet hq5) (.inl rfl), .inl rfl⟩
  clear hq5
  go_wp2_with (with_reducible refine wpList_copy_nothing rfl (.tmp 45) (.tmp 46) 22 22 rfl 3 Try.underlying22 infoSize _ _ _ _ _ _ rfl rfl (by simp) ?_)
  go_end0
  exact FIN.out

theorem reads_at {w : World} {a : Option Addr} {n c : Nat} {ys : List Int} (h : Reads w (.slice a n c) ys) (hn : ys.length = n) (h0 : 0 < n) : ∃ ad, a = some ad ∧ ∀ j u, (ys.map (Value.int .i64))[j]? = some u → w.cell? (ad.add j) = some u := by
  obtain ⟨a', c', he, _, hrd⟩ := h
  simp only [Value.slice.injEq] at he
  obtain ⟨rfl, _, _⟩ := he
  obtain ⟨g, off, h2, h3, h4⟩ := hrd (by omega)
  exact ⟨_, h2, news_of h4⟩

set_option maxHeartbeats 2000000 in
theorem front_room (p : Nat) (r : Option Nat) (pre xs ys : List Int) (a : Option Addr) (n c : Nat) (w : World) (hb0 : Bat0 w p r pre xs) (hpl : pre.length ≤ 3 * xs.length + 3) (hn : ys.length = n) (hn0 : 0 < n) (hnp : n ≤ pre.length)
    (hr : ∀ w', OnlyO p r w w' → Reads w' (.slice a n c) ys) (hl : n + xs.length ≤ 1000000) :
    Calls Try.prog 12 #[.pointer (some ⟨p, 0, none⟩), .slice a n c] w (PutPost p r (ys ++ xs) w) := by
  obtain ⟨v, hp, ho, hrv⟩ := hb0.h
  obtain ⟨g, rfl⟩ : ∃ g, r = some g := by
    obtain ⟨_, ⟨h1, h2⟩ | ⟨g, cap, cur, h1, _⟩⟩ := ho
    · rw [List.length_append] at h2; omega
    · exact ⟨g, by rw [← hrv, h1]; rfl⟩
  obtain ⟨k, hk⟩ : ∃ k, k = pre.length := ⟨_, rfl⟩
  have k1 : w.cell? ⟨p, 1, none⟩ = some (.int .i64 k) := by rw [hk]; simp [World.cell?, hp]
  have f1 : w.frozen? ⟨p, 1, none⟩ = false := by simp [World.frozen?, hp]
  have hkb : k ≤ 4000000 := by omega
  have hnk : n ≤ k := by omega
  obtain ⟨P1, hP1⟩ : ∃ l, l = pre.take (k - n) := ⟨_, rfl⟩
  obtain ⟨P2, hP2⟩ : ∃ l, l = pre.drop (k - n) := ⟨_, rfl⟩
  have hpp : pre = P1 ++ P2 := by rw [hP1, hP2, List.take_append_drop]
  have hl1 : P1.length = k - n := by rw [hP1]; simp; omega
  have hl2 : P2.length = n := by rw [hP2]; simp; omega
  have H4 := hid (hb0.head (pre' := P1) (xs' := P2 ++ xs) (by rw [hpp, List.append_assoc]) (by simp; omega) ((k : Int) - n) (by rw [hl1]; omega))
  have HL1 := hid hl1
  have HL2 := hid hl2
  have HPL := hid (show P1.length ≤ 3 * (ys ++ xs).length + 3 by simp; omega)
  have HR := hid hr
  have HN := hid hn
  clear hb0 hp ho hrv hpl hk hP1 hP2 hpp hl1 hl2 hr hnp hn hl
  go_enter Try.func12, Try.ntmps12
  go_wp2_with fail
  refine (row_at p g P1 (P2 ++ xs) _ H4.out (by have := HL2.out; simp; omega)).mono ?_
  rintro e w5 ⟨c5, rfl, hc5, hq5⟩
  have ho5 : OnlyO p (some g) w w5 := (OnlyO.set w 1 _).trans (OnlyO.quiet hq5) (.inl rfl)
  obtain ⟨cur, hg, hsz, hnew⟩ := (H4.out.quiet hq5).cells
  obtain ⟨ad, rfl, hsrc⟩ := reads_at (HR.out w5 ho5) HN.out hn0
  obtain ⟨d, hd⟩ : ∃ d, d = (P2 ++ xs).length := ⟨_, rfl⟩
  have hnd : n ≤ d := by have := HL2.out; rw [hd]; simp; omega
  have HSRC := hid hsrc
  have HG := hid hg
  have hfit : P1.length + (ys.map (Value.int .i64)).length ≤ cur.size := by have := HN.out; rw [List.length_map]; omega
  have HF := hid hfit
  have HCL := hid (show (ys.map (Value.int .i64)).length = Nat.min n d by have := HN.out; have : Nat.min n d = n := Nat.min_eq_left hnd; rw [this]; simpa using HN.out)
  have FIN := hid (front_fin (r := some g) ho5 (OnlyO.row w5 _) (.inl rfl) (hnew P2 xs ys rfl (by have := HN.out; have := HL2.out; omega)) HPL.out)
  clear hq5 hg hsz hnew hsrc hfit ho5
  rw [← hd]
  clear hd
  go_wp2_with (with_reducible refine wpList_copy_own rfl (.tmp 45) (.tmp 46) 22 22 rfl 3 Try.underlying22 infoSize g P1.length _ _ ad _ _ rfl rfl cur 3 HG.out (ys.map (Value.int .i64)) HCL.out HSRC.out HF.out (ones_of ys) ?_)
  go_end0
  exact ⟨rfl, by simpa using FIN.out⟩

theorem OnlyO.of_alloc' {p : Nat} {r : Option Nat} (w : World) (o : Obj) : OnlyO p r w (w.alloc o) := .of_below ((Below.refl _ _).alloc (Nat.le_refl _) _)
/-- The new room, behind both stores. -/
theorem grow_mid {p B s : Nat} {r : Option Nat} {pre xs : List Int} {w w5 w6 : World} {v v' : Value} (hb : Bat0 w5 p r pre xs) (ho : OnlyO p r w w5) (hB : w.heap.size ≤ B) (hBl : B < w5.heap.size) (hpB : p < B)
    (hv : v.ownBlock = some B) (hown : w6.ownsRow B 3 1 v' (s + xs.length) ((List.replicate s 0).map (Value.int .i64) ++ xs.map (Value.int .i64))) (hgr : w5.grownBy w6 v.ownBlock) (hat : v'.ownBlock = v.ownBlock ∨ v'.ownBlock = some w5.heap.size) :
    ∃ g v0, w.heap.size ≤ g ∧ w6.heap[p]? = some (.cells #[v0, .int .i64 pre.length] 34 (0, 0)) ∧ Bat0 ((w6.setCell ⟨p, 0, none⟩ v').setCell ⟨p, 1, none⟩ (.int .i64 s)) p (some g) (List.replicate s 0) xs ∧
      OnlyO p r w ((w6.setCell ⟨p, 0, none⟩ v').setCell ⟨p, 1, none⟩ (.int .i64 s)) := by
  obtain ⟨v0, hp, _, _⟩ := hb.h
  have hp6 : w6.heap[p]? = some (.cells #[v0, .int .i64 pre.length] 34 (0, 0)) := by
    rw [hgr.block p (by omega) (by rw [hv]; intro e; simp only [Option.some.injEq] at e; omega)]; exact hp
  have hog : ∃ g, v'.ownBlock = some g ∧ B ≤ g := by
    rcases hat with h | h
    · exact ⟨B, by rw [h, hv], Nat.le_refl _⟩
    · exact ⟨_, h, by omega⟩
  obtain ⟨g, hg, hBg⟩ := hog
  refine ⟨g, v0, by omega, hp6, ⟨⟨v', ?_, ?_, hg⟩, fun e => ?_, hb.len⟩, ?_⟩
  · simp [World.setCell, Array.getElem?_modify, hp6]
  · have : Owns w6 B v' (List.replicate s 0 ++ xs) := by
      unfold Owns
      rw [List.map_append, List.length_append, List.length_replicate]; exact hown
    exact (this.mono (Nat.zero_le _)).kept fun k hk => by
      have hkp : k ≠ p := by rw [hg] at hk; simp only [Option.some.injEq] at hk; omega
      rw [Below.heap_setCell _ _ _ _ hkp, Below.heap_setCell _ _ _ _ hkp]
  · simp only [Option.some.injEq] at e; omega
  · have h56 : OnlyO p (some B) w5 w6 := ⟨hgr.os, hgr.tape, hgr.output, hgr.size, fun k hk _ h2 => hgr.block k hk (by rw [hv]; exact h2)⟩
    have h67 : OnlyO p r w6 ((w6.setCell ⟨p, 0, none⟩ v').setCell ⟨p, 1, none⟩ (.int .i64 s)) := (OnlyO.set w6 0 _).trans (OnlyO.set _ 1 _) (.inl rfl)
    exact (ho.trans h56 (.inr fun q hq => by simp only [Option.some.injEq] at hq; omega)).trans h67 (.inl rfl)

set_option maxHeartbeats 4000000 in
theorem front_grow (p : Nat) (r : Option Nat) (pre xs ys : List Int) (a : Option Addr) (n c : Nat) (w : World) (hb0 : Bat0 w p r pre xs) (hpl : pre.length ≤ 3 * xs.length + 3) (hn : ys.length = n) (hnp : pre.length < n)
    (hr : ∀ w', OnlyO p r w w' → Reads w' (.slice a n c) ys) (hl : n + xs.length ≤ 1000000) :
    Calls Try.prog 12 #[.pointer (some ⟨p, 0, none⟩), .slice a n c] w (PutPost p r (ys ++ xs) w) := by
  obtain ⟨v, hp, ho, hrv⟩ := hb0.h
  have k1 : w.cell? ⟨p, 1, none⟩ = some (.int .i64 pre.length) := by simp [World.cell?, hp]
  obtain ⟨d, hd⟩ : ∃ d, d = xs.length := ⟨_, rfl⟩
  obtain ⟨k, hk⟩ : ∃ k, k = pre.length := ⟨_, rfl⟩
  obtain ⟨s, hs⟩ : ∃ s : Nat, s = d + n := ⟨_, rfl⟩
  have hplt := hb0.lt
  have HB := hid hb0
  have L := hid (fun w h => blen0 p r pre xs w h)
  have HR := hid hr
  have HN := hid hn
  have HD := hid hd
  have HK := hid hk
  rw [← hd] at L hl
  rw [← hk] at k1 hnp
  have hkb : k ≤ 4000000 := by omega
  have hs' : (d : Int) + n = s := by omega
  have HS := hid hs'
  have hsb : s ≤ 1000000 := by omega
  clear hb0 hp ho hrv hn hd hk hr hs' hs hpl
  go_enter Try.func12, Try.ntmps12
  go_wp2_with fail
  refine (L.out _ HB.out).mono ?_
  rintro e w2 ⟨rfl, hq2⟩
  have HB2 := hid (HB.out.quiet hq2)
  go_wp2_with fail
  refine (L.out _ HB2.out).mono ?_
  rintro e w3 ⟨rfl, hq3⟩
  have HB3 := hid (HB2.out.quiet hq3)
  have HS3 := hid (show w3.heap.size = w.heap.size by rw [hq3.heap, hq2.heap])
  have HO3 : Hid (OnlyO p r w w3) := (OnlyO.quiet hq2).trans (OnlyO.quiet (r := r) hq3) (.inl rfl)
  clear hq2 hq3
  obtain ⟨i0, hi, hz0, hz1, hz2⟩ := info_parts infoInt
  have HI := hid hi
  have hby : (i0.bytes : Int) * ((s + d : Nat) : Int) ≤ 281474976710656 := by rw [hz2]; omega
  have hcs : ((d : Int) + n + d) = ((s + d : Nat) : Int) := by have := HS.out; omega
  have HZ0 := hid hz0
  have HZ2 := hid hz2
  have HZ1 := hid hz1
  have HCS := hid hcs
  have HBY := hid hby
  clear hi hz0 hz1 hz2 hcs hby
  go_wp2_with (with_reducible refine wpList_make_lc _ rfl (.tmp 18) (.tmp 22) 22 rfl 3 i0 (.int .i64 0) Try.underlying22 HI.out HZ0.out HZ1.out .i64 .i64 ((d : Int) + n) ((d : Int) + n + d) s (s + d) rfl rfl HS.out HCS.out (by omega) HBY.out (by omega) ?_)
  have HB4 := hid (HB3.out.kept (w' := w3.alloc (.cells (madeCells (Value.cells (.int .i64 0)) (s + d)) 3)) (Below.heap_alloc _ _ _ HB3.out.lt) (fun k hk => Below.heap_alloc _ _ _ (HB3.out.rlt k hk)))
  have hm0 : Owns (w3.alloc (.cells (madeCells (Value.cells (.int .i64 0)) (s + d)) 3)) w3.heap.size (.slice (some ⟨w3.heap.size, 0, none⟩) s (s + d)) (List.replicate s 0) := owns_made w3 w3.heap.size s (s + d) (Nat.le_refl _) (by omega) (by unfold maxLen; omega)
  have HM := hid hm0
  have HO4 := hid (HO3.out.trans (OnlyO.of_alloc' (p := p) (r := r) w3 (.cells (madeCells (Value.cells (.int .i64 0)) (s + d)) 3)) (.inl rfl))
  clear hm0
  refine (row0 p r pre xs _ HB4.out).mono ?_
  rintro e w5 ⟨v5, rfl, hrd5, hq5⟩
  have HB5 := hid (HB4.out.quiet hq5)
  have HO5 := hid (HO4.out.trans (OnlyO.quiet (r := r) hq5) (.inl rfl))
  have hs5 : w5.heap.size = w3.heap.size + 1 := by rw [hq5.heap]; simp
  have hown5 : w5.ownsRow w3.heap.size 3 1 (.slice (some ⟨w3.heap.size, 0, none⟩) s (s + d)) s ((List.replicate s (0 : Int)).map (Value.int .i64)) := by
    have := HM.out.kept (w' := w5) (fun k _ => by rw [hq5.heap])
    unfold Owns at this
    rwa [List.length_replicate] at this
  have HRD := hid hrd5
  have hxl := HB5.out.len
  have HS5 := hid hs5
  have hle5 : w3.heap.size ≤ w5.heap.size := by omega
  have B1 := hid (show s + xs.length ≤ maxLen by unfold maxLen; omega)
  have B2 := hid (show (s + xs.length) * 8 ≤ 140737488355328 by omega)
  clear hq5 hrd5 hs5
  go_wp2_with (with_reducible refine wpList_append_reads rfl (.tmp 26) (.tmp 28) 22 rfl w3.heap.size 3 i0 (.int .i64 0) 8 Try.underlying22 HI.out HZ0.out HZ1.out HZ2.out (by decide) (.slice (some ⟨w3.heap.size, 0, none⟩) s (s + d)) s _ rfl hown5 xs v5 rfl HRD.out B1.out B2.out hle5 ?_)
  intro v6 w6 hown6 hgr6 hat6
  obtain ⟨g, v0, hg, hp6, hb7, ho7⟩ := grow_mid (B := w3.heap.size) HB5.out HO5.out (by have := HS3.out; omega) (by have := HS5.out; omega) (by have := HS3.out; omega) rfl (s := s) (by rw [List.map_replicate]; exact hown6) hgr6 hat6
  rw [← HK.out] at hp6
  obtain ⟨va6, vm6, vc6, rfl⟩ : ∃ a m c, v6 = .slice a m c := by
    obtain ⟨_, ⟨h, _⟩ | ⟨q, cap, cur, h, _⟩⟩ := hown6
    · exact ⟨_, _, _, h⟩
    · exact ⟨_, _, _, h⟩
  have d0 : w6.cell? ⟨p, 0, none⟩ = some v0 := by simp [World.cell?, hp6]
  have d1 : w6.cell? ⟨p, 1, none⟩ = some (.int .i64 k) := by simp [World.cell?, hp6]
  have e0 : w6.frozen? ⟨p, 0, none⟩ = false := by simp [World.frozen?, hp6]
  have e1 : w6.frozen? ⟨p, 1, none⟩ = false := by simp [World.frozen?, hp6]
  have HB7 := hid hb7
  have HO7 := hid ho7
  have HG := hid hg
  clear hown6 hgr6 hat6 hp6 hb7 ho7 hown5
  go_wp2_with fail
  obtain ⟨P1, hP1⟩ : ∃ l, l = List.replicate d (0 : Int) := ⟨_, rfl⟩
  obtain ⟨P2, hP2⟩ : ∃ l, l = List.replicate n (0 : Int) := ⟨_, rfl⟩
  have hb7 := HB7.out
  have ho7 := HO7.out
  rw [← HS.out] at hb7 ho7
  have hsp : List.replicate s (0 : Int) ++ xs = P1 ++ (P2 ++ xs) := by
    have e : s = d + n := by have := HS.out; omega
    rw [hP1, hP2, e, ← List.append_assoc, List.replicate_append_replicate]
  have hl1 : P1.length = d := by rw [hP1]; simp
  have hl2 : P2.length = n := by rw [hP2]; simp
  have H8 := hid (hb7.head (pre' := P1) (xs' := P2 ++ xs) hsp (by have := HD.out; simp; omega) (d : Int) (by rw [hl1]))
  have HO8 := hid (ho7.trans (OnlyO.set (p := p) (r := r) _ 1 (.int .i64 (d : Int))) (.inl rfl))
  have HL1 := hid hl1
  have HL2 := hid hl2
  have HPL := hid (show P1.length ≤ 3 * (ys ++ xs).length + 3 by have := HD.out; simp; omega)
  clear hb7 ho7 hsp hl1 hl2 hP1 hP2
  refine (row_at p g P1 (P2 ++ xs) _ H8.out (by have := HL2.out; simp; omega)).mono ?_
  rintro e w9 ⟨c9, rfl, hc9, hq9⟩
  have ho9 : OnlyO p r w w9 := HO8.out.trans (OnlyO.quiet (r := r) hq9) (.inl rfl)
  obtain ⟨cur, hcur, hsz, hnew⟩ := (H8.out.quiet hq9).cells
  obtain ⟨ad, rfl, hsrc⟩ := reads_at (HR.out w9 ho9) HN.out (by omega)
  obtain ⟨m, hm⟩ : ∃ m, m = (P2 ++ xs).length := ⟨_, rfl⟩
  have hnd : n ≤ m := by have := HL2.out; rw [hm]; simp; omega
  have HSRC := hid hsrc
  have HCUR := hid hcur
  have hfit : P1.length + (ys.map (Value.int .i64)).length ≤ cur.size := by have := HN.out; have := HL2.out; rw [List.length_map]; rw [List.length_append] at hsz; omega
  have HF := hid hfit
  have HCL := hid (show (ys.map (Value.int .i64)).length = Nat.min n m by have := HN.out; have : Nat.min n m = n := Nat.min_eq_left hnd; rw [this]; simpa using HN.out)
  have FIN := hid (front_fin (r := r) ho9 (OnlyO.row w9 _) (.inr fun q hq => by simp only [Option.some.injEq] at hq; have := HG.out; omega) (hnew P2 xs ys rfl (by have := HN.out; have := HL2.out; omega)) HPL.out)
  clear hq9 hcur hsz hnew hsrc hfit ho9
  rw [← hm]
  clear hm
  go_wp2_with (with_reducible refine wpList_copy_own rfl (.tmp 45) (.tmp 46) 22 22 rfl 3 Try.underlying22 infoSize g P1.length _ _ ad _ _ rfl rfl cur 3 HCUR.out (ys.map (Value.int .i64)) HCL.out HSRC.out HF.out (ones_of ys) ?_)
  go_end0
  exact ⟨rfl, by simpa using FIN.out⟩
end Go.Proofs.Ytpmggkngakdkhaa
