/- slices.Delete of the first number of a slice of the call's own. -/
import Derived.Test.YtfpkgkjmpcoppaaGreatDoorPre1
import Derived.Deep.RegionLaw
import Derived.Lib.SliceRun
import Derived.Deep.Upon
namespace Go.Proofs.YtfpkgkjmpcoppaaGreatDoor
set_option maxRecDepth 20000
set_option linter.unusedVariables false
set_option linter.unusedSimpArgs false
open Go.RowKit

theorem setCells_blk (b : Nat) (t : TypeId) : ∀ (vs : List Value) (o : Nat) (w : World) (cur : Array Value), w.heap[b]? = some (.cells cur t (0, 0)) →
    ∃ cur' : Array Value, (w.setCells b o vs).heap[b]? = some (.cells cur' t (0, 0)) ∧ cur'.size = cur.size ∧ ∀ k, k < cur.size → cur'[k]? = if o ≤ k ∧ k < o + vs.length then vs[k - o]? else cur[k]?
  | [], o, w, cur, h => ⟨cur, h, rfl, fun k _ => by rw [if_neg (fun h => absurd h.2 (by have := h.1; simp only [List.length_nil]; omega))]⟩
  | v :: vs, o, w, cur, h => by
    have h1 : (w.setCell ⟨b, o, none⟩ v).heap[b]? = some (.cells (cur.setIfInBounds o v) t (0, 0)) := by
      simp [World.setCell, Array.getElem?_modify, h]
    obtain ⟨cur', h2, h3, h4⟩ := setCells_blk b t vs (o + 1) (w.setCell ⟨b, o, none⟩ v) _ h1
    refine ⟨cur', h2, by simpa using h3, fun k hk => ?_⟩
    rw [h4 k (by simpa using hk)]
    by_cases e : k = o
    · subst e
      rw [if_neg (by omega), if_pos (by simp)]
      simp [hk]
    · by_cases hr : o + 1 ≤ k ∧ k < o + 1 + vs.length
      · rw [if_pos hr, if_pos (by simp; omega), show k - o = (k - (o + 1)) + 1 by omega]; rfl
      · rw [if_neg hr, if_neg (by simp; omega)]
        rw [Array.getElem?_setIfInBounds]
        rw [if_neg (Ne.symm e)]
theorem setCells_size (b : Nat) : ∀ (vs : List Value) (o : Nat) (w : World), (w.setCells b o vs).heap.size = w.heap.size
  | [], _, _ => rfl
  | v :: vs, o, w => by
    show ((w.setCell ⟨b, o, none⟩ v).setCells b (o + 1) vs).heap.size = _
    rw [setCells_size b vs]; simp [World.setCell]
theorem setCells_tape (b : Nat) : ∀ (vs : List Value) (o : Nat) (w : World), (w.setCells b o vs).tape = w.tape
  | [], _, _ => rfl
  | v :: vs, o, w => by
    show ((w.setCell ⟨b, o, none⟩ v).setCells b (o + 1) vs).tape = _
    rw [setCells_tape b vs]; rfl
theorem setCells_only (g : Nat) (o : Nat) (vs : List Value) (w : World) : Only g g w (w.setCells g o vs) :=
  ⟨World.os_setCells w g o vs, setCells_tape g vs o w, World.output_setCells w g o vs, by rw [setCells_size]; exact Nat.le_refl _, fun k hk h1 _ => World.heap_setCells_other w g o vs hk h1⟩
theorem drew_only (b g : Nat) (w : World) : Only b g w w.drew := ⟨rfl, rfl, rfl, Nat.le_refl _, fun _ _ _ _ => rfl⟩

/-- What a deletion of the first one leaves. -/
def DelPost (g : Nat) (xs : List Int) (w : World) (e : Ending) (w' : World) : Prop :=
  ∃ v', e = .returned v' ∧ Owns w' 0 v' xs ∧ v'.ownBlock = some g ∧ Only g g w w'
theorem del_fin (g n c : Nat) (m : Int) (xs : List Int) (w : World) (cur : Array Value) (hn : n = xs.length) (hb : w.heap[g]? = some (.cells cur 3 (0, 0))) (hc : cur.size = c) (hcm : c ≤ maxLen) (hcap : n + 1 ≤ c)
    (hl : cur.toList.take (n + 1) = (m :: xs).map (Value.int .i64)) (w' : World) (hw : w' = (w.drew.setCells g 0 (xs.map (Value.int .i64))).setCells g n [.int .i64 0]) :
    DelPost g xs w (.returned (.slice (some ⟨g, 0, none⟩) n c)) w' := by
  subst hw
  have hb1 : w.drew.heap[g]? = some (.cells cur 3 (0, 0)) := hb
  obtain ⟨c1, h1, h2, h3⟩ := setCells_blk g 3 (xs.map (Value.int .i64)) 0 w.drew cur hb1
  obtain ⟨c2, h4, h5, h6⟩ := setCells_blk g 3 [Value.int .i64 0] n _ c1 h1
  refine ⟨_, rfl, ⟨by simp, .inr ⟨g, c, c2, by rw [hn], by omega, h4, by omega, hcm, by omega, ?_⟩⟩, rfl, (drew_only _ _ w).trans ((setCells_only _ _ _ _).trans (setCells_only _ _ _ _))⟩
  apply List.ext_getElem?
  intro k
  rw [List.getElem?_take, Nat.mul_one]
  by_cases hk : k < xs.length
  · rw [if_pos hk, Array.getElem?_toList, h6 k (by omega), if_neg (by simp; omega), h3 k (by omega), if_pos (by simp; omega), Nat.sub_zero]
  · rw [if_neg hk, List.getElem?_eq_none (by simp; omega)]

set_option maxHeartbeats 4000000 in
theorem del_first (g n c : Nat) (m : Int) (xs : List Int) (w : World) (cur : Array Value) (hn : n = xs.length) (hb : w.heap[g]? = some (.cells cur 3 (0, 0))) (hc : cur.size = c) (hcm : c ≤ maxLen) (hcap : n + 1 ≤ c)
    (hl : cur.toList.take (n + 1) = (m :: xs).map (Value.int .i64)) :
    Calls Tryz.prog 251 #[.slice (some ⟨g, 0, none⟩) (n + 1) c, .int .i64 0, .int .i64 1] w (DelPost g xs w) := by
  obtain ⟨i0, hi0, hz0, hz1, hz2⟩ := info_parts infoInt
  have hcell : ∀ k, k < n + 1 → w.cell? ⟨g, k, none⟩ = some (.int .i64 ((m :: xs).getD k 0)) := by
    intro k hk
    have e : (cur.toList.take (n + 1))[k]? = cur.toList[k]? := by rw [List.getElem?_take, if_pos hk]
    rw [hl, List.getElem?_map] at e
    have e' : w.cell? ⟨g, k, none⟩ = cur.toList[k]? := by simp [World.cell?, hb]
    rw [e', ← e, List.getD_eq_getElem?_getD]
    have : k < (m :: xs).length := by simp; omega
    rw [List.getElem?_eq_getElem this]; rfl
  have hfr : ∀ k, w.frozen? ⟨g, k, none⟩ = false := fun k => by simp [World.frozen?, hb]
  have FIN := hid (fun w' h => del_fin g n c m xs w cur hn hb hc hcm hcap hl w' h)
  obtain ⟨news, hnews⟩ : ∃ news, news = xs.map (Value.int .i64) := ⟨_, rfl⟩
  rw [← hnews] at FIN
  have hlen : news.length = n := by rw [hnews, hn]; simp
  have hget : ∀ t, t < n → news[t]? = some (.int .i64 ((m :: xs).getD (t + 1) 0)) := by
    intro t ht
    rw [hnews, List.getElem?_map, List.getD_cons_succ, List.getD_eq_getElem?_getD, List.getElem?_eq_getElem (by omega)]
    rfl
  obtain ⟨A, hA, hsrc⟩ : ∃ A : Addr, (if c = 1 then some (⟨g, 0, none⟩ : Addr) else some ⟨g, 1, none⟩) = some A ∧ Hid (∀ t u, news[t]? = some u → w.drew.cell? (A.add t) = some u) := by
    by_cases h : c = 1
    · refine ⟨⟨g, 0, none⟩, by simp [h], fun t u hu => ?_⟩
      have h0 : news.length = 0 := by rw [hlen]; omega
      rw [List.length_eq_zero_iff.1 h0] at hu
      simp at hu
    · refine ⟨⟨g, 1, none⟩, by simp [h], fun t u hu => ?_⟩
      have ht : t < n := by
        have := (List.getElem?_eq_some_iff.1 hu).1
        rwa [hlen] at this
      rw [hget t ht] at hu
      rw [Addr.add_lit, Nat.add_comm 1 t]
      exact (hcell (t + 1) (by omega)).trans hu
  have s1 : Hid (news.length = n * 1) := by rw [Nat.mul_one]; exact hlen
  have s2 : Hid (∀ u ∈ news, u.oneCell' = true) := by
    intro u hu
    rw [hnews] at hu
    obtain ⟨x, _, rfl⟩ := List.mem_map.1 hu
    rfl
  have s3 : Hid (∀ t, t < news.length → (w.drew.cell? ⟨g, 0 + 0 * 1 + t, none⟩).isSome = true ∧ w.drew.frozen? ⟨g, 0 + 0 * 1 + t, none⟩ = false) := by
    intro t ht
    rw [hlen] at ht
    rw [show 0 + 0 * 1 + t = t by omega]
    exact ⟨by show (w.cell? _).isSome = true; rw [hcell t (by omega)]; rfl, hfr t⟩
  have s4 : Hid (0 + n ≤ c) := hid (by omega)
  obtain ⟨W1, hW1⟩ : ∃ W1, W1 = w.drew.setCells g (0 + 0 * 1) news := ⟨_, rfl⟩
  have hcl : ∀ ty, (Builtin.clear_ #[35] ty #[.slice (some ⟨g, n, none⟩) 1 (c - n)]).run Tryz.prog W1 = .ok (.tuple #[]) (W1.setCells g n (List.replicate 1 (.int .i64 0))) := by
    intro ty
    obtain ⟨c1, q1, q2, q3⟩ := setCells_blk g 3 news 0 w.drew cur hb
    have hc1 : W1.heap[g]? = some (.cells c1 3 (0, 0)) := by rw [hW1]; exact q1
    refine Lib.run_clear_slice W1 _ _ ty _ Tryz.underlying35 (fun w => rfl) rfl rfl g n _ _ (by omega) (fun t ht => ?_) (fun t ht => by simp [World.frozen?, hc1])
    have : n + t < c1.size := by omega
    simp [World.cell?, hc1, this]
  have hW : Hid (W1 = w.drew.setCells g (0 + 0 * 1) news) := hW1
  have FIN' := hid (FIN.out (W1.setCells g n (List.replicate 1 (.int .i64 0))) (by rw [hW1]; rfl))
  have hn1 : ((n + 1 : Nat) : Int) = (n : Int) + 1 := by omega
  have hcm' := hcm
  unfold maxLen at hcm'
  have hp : (1 : Int) ≤ (n : Int) + 1 := by omega
  have hcn : ¬ c = n := by omega
  have hcn2 : (n : Int) + 1 ≤ (c : Int) := by omega
  clear hW1 hb hget hnews hlen hcell hfr FIN hl hn hc
  go_enter Tryz.func251, Tryz.ntmps251
  go_wp2_with fail
  go_region_law (refine step_append_room rfl (.tmp 22) (.tmp 25) 35 rfl 3 i0 1 Tryz.underlying35 hi0 hz1 g 0 0 c (by simp [Act.eval, Act.put]) A n (c - 1) news (by simp [Act.eval, Act.put]) s1.out hsrc.out s2.out s4.out s3.out ?_; rw [← hW.out])
  go_wp2
  go_ret
  exact FIN'.out
end Go.Proofs.YtfpkgkjmpcoppaaGreatDoor
