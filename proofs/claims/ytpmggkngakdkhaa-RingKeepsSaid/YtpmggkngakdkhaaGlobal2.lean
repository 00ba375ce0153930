/- The contracts of package global, continued: Take, One, List, New; the law's row of numbers; lives. -/
import Derived.Test.YtpmggkngakdkhaaGlobal
namespace Go.Proofs.Ytpmggkngakdkhaa
set_option linter.unusedVariables false
set_option linter.unusedSimpArgs false
open Go.RowKit

theorem MostPost.quiet {p : Nat} {r : Option Nat} {xs : List Int} {k : Nat} {w w1 : World} {e : Ending} {w' : World} (h : MostPost p r xs k w1 e w') (hq : Quiet w w1) : MostPost p r xs k w e w' := by
  obtain ⟨v, r', he, h1, h2, h3, h4, h5⟩ := h
  rw [hq.heap] at h1 h4
  exact ⟨v, r', he, h1, h2, (OnlyO.quiet hq).trans h3 (.inl rfl), h4, h5⟩

set_option maxHeartbeats 2000000 in
theorem qtake (q p : Nat) (P : Int) (r : Option Nat) (xs : List Int) (w : World) (h : Qu w q p P r xs) (n : Nat) (hn : xs.length = n) (k : Nat) (hk : (k : Int) = min (min ((n : Int) / P + 1) n) 128) :
    Calls Try.prog 40 #[.pointer (some ⟨q, 0, none⟩)] w (MostPost p r xs k w) := by
  have c0 := h.c0
  have S := hid (fun w h => share_any q p P r xs w h n hn k hk)
  have M := hid (fun w h => most_any p r xs (k : Int) k (by rw [hn]; omega) w h)
  have H := hid h
  clear h hn hk
  go_enter Try.func40, Try.ntmps40
  go_wp2_with fail
  go_region_with (first
    | (go_at_call 44; refine (S.out _ H.out.drew).mono ?_; rintro e w1 ⟨rfl, hq1⟩; have c1 := (H.out.drew.quiet hq1).c0)
    | (go_at_call 14; refine (M.out _ (H.out.drew.quiet hq1).hb).mono ?_; rintro e w2 hm; have FIN := hid (MostPost.quiet hm (Quiet.trans ⟨1, rfl⟩ hq1)); obtain ⟨v, r', rfl, _⟩ := hm))
  all_goals
    go_wp2
    go_ret
    exact FIN.out

set_option maxHeartbeats 1000000 in
theorem one_nil (q p : Nat) (P : Int) (r : Option Nat) (w : World) (h : Qu w q p P r []) :
    Calls Try.prog 42 #[.pointer (some ⟨q, 0, none⟩)] w fun e w' => e = .returned (.tuple #[.int .i64 0, .bool false]) ∧ Quiet w w' := by
  have c0 := h.c0
  have HB := hid h.hb
  clear h
  go_enter Try.func42, Try.ntmps42
  go_wp2_with fail
  refine (take_nil p r _ HB.out).mono ?_
  rintro e w1 ⟨rfl, hq⟩
  go_wp2
  go_ret2
  exact ⟨rfl, hq⟩
set_option maxHeartbeats 1000000 in
theorem one_cons (q p : Nat) (P : Int) (r : Option Nat) (x : Int) (ys : List Int) (w : World) (h : Qu w q p P r (x :: ys)) :
    Calls Try.prog 42 #[.pointer (some ⟨q, 0, none⟩)] w fun e w' => e = .returned (.tuple #[.int .i64 x, .bool true]) ∧ Left p r ys w w' := by
  have c0 := h.c0
  have HB := hid h.hb
  clear h
  go_enter Try.func42, Try.ntmps42
  go_wp2_with fail
  refine (take_cons p r x ys _ HB.out).mono ?_
  rintro e w1 ⟨rfl, hq⟩
  have HQ := hid hq
  clear hq
  go_wp2
  go_ret2
  exact ⟨rfl, HQ.out⟩
set_option maxHeartbeats 1000000 in
theorem qlist (q p : Nat) (P : Int) (r : Option Nat) (xs : List Int) (w : World) (h : Qu w q p P r xs) :
    Calls Try.prog 41 #[.pointer (some ⟨q, 0, none⟩)] w (ClonePost xs w) := by
  have c0 := h.c0
  have HB := hid h.hb
  clear h
  go_enter Try.func41, Try.ntmps41
  go_wp2_with fail
  refine (list_any p r xs _ HB.out).mono ?_
  rintro e w1 hp
  have FIN := hid hp
  obtain ⟨v, rfl, ho, _⟩ := hp
  obtain ⟨va, vm, vc, rfl⟩ := ho.slice3
  clear ho
  go_wp2
  go_ret
  exact FIN.out

/-- A new queue of the numbers xs. -/
def QNew (P : Int) (xs : List Int) (w : World) (e : Ending) (w' : World) : Prop :=
  ∃ q p r, e = .returned (.pointer (some ⟨q, 0, none⟩)) ∧ Qu w' q p P r xs ∧ w.heap.size ≤ q ∧ w.heap.size ≤ p ∧ (∀ k, r = some k → w.heap.size ≤ k) ∧ Below w.heap.size w w'
theorem reads_nil (w : World) : Reads w (.slice none 0 0) [] := ⟨none, 0, rfl, ⟨by simp, by unfold maxLen; omega, .inl ⟨rfl, rfl⟩⟩, fun h => absurd h (by simp)⟩

set_option maxHeartbeats 2000000 in
theorem qnew (n P : Int) (hP : P = min (max n 1) 64) (w : World) :
    Calls Try.prog 37 #[.int .i64 n] w (QNew P [] w) := by
  have e1 : (if n < 1 then 1 else n) = max n 1 := by split <;> omega
  have hlo : 1 ≤ P := by omega
  have hhi : P ≤ 64 := by omega
  have O := hid (fun w => of_any (.slice none 0 0) [] w (by simp) (reads_nil w))
  obtain ⟨m, hm⟩ : ∃ m, m = max n 1 := ⟨_, rfl⟩
  rw [← hm] at e1 hP
  have e2 : (if 64 < m then 64 else m) = P := by rw [hP]; split <;> omega
  have e3 : (if 1 > n then 1 else n) = m := e1
  clear hm hP e1
  go_enter Try.func37, Try.ntmps37
  go_wp2_with fail
  refine (O.out _).mono ?_
  rintro e w1 ⟨p, r, rfl, hb, hp, hr, hbel⟩
  have hs := hbel.size
  have hlt := hb.lt
  have hrl := hb.rlt
  have HB := hid hb
  have HRL := hid hrl
  have HR := hid hr
  clear hb hrl hr
  go_wp2
  go_outline
  go_ret
  exact ⟨w1.heap.size, p, r, rfl, ⟨Deep.blk_alloc_new _ _, HB.out.below ((Below.refl _ _).alloc (Nat.le_refl _) _), by omega, fun e => by have := HRL.out _ e; omega, hlo, hhi⟩, by omega, hp, HR.out, hbel.alloc hs _⟩

def rowL (f : Int) (n : Nat) : List Int := (List.range n).map fun (i : Nat) => f % 4096 + (i : Int)
theorem rowL_succ (f : Int) (n : Nat) : rowL f (n + 1) = rowL f n ++ [f % 4096 + (n : Int)] := by simp [rowL, List.range_succ]
theorem rowL_length (f : Int) (n : Nat) : (rowL f n).length = n := by simp [rowL]
theorem rowL_get (f : Int) (n j : Nat) (h : j < n) : (rowL f n).getD j 0 = f % 4096 + (j : Int) := by simp [rowL, h]

theorem lawrow_fin {w wr : World} {f : Int} {k : Nat} {v : Value} (h : wr.ownsRow w.heap.size 3 1 v k ((rowL f k).map (Value.int .i64))) (hb : Below w.heap.size w wr) : ClonePost (rowL f k) w (.returned v) wr :=
  ⟨_, rfl, by unfold Owns; rw [rowL_length]; exact h, hb⟩

set_option maxHeartbeats 2000000 in
theorem lawrow (f : Int) (n : Nat) (hf : 0 ≤ f) (hf2 : f ≤ 1000000000) (hn : n ≤ 100000) (w : World) :
    Calls Try.prog 45 #[.int .i64 f, .int .i64 n] w (ClonePost (rowL f n) w) := by
  go_enter Try.func45, Try.ntmps45
  go_wp2_with fail
  go_loopw [5, 8] (fun v i wr => ∃ (k : Nat), k ≤ n ∧ i = .int .i64 k ∧ wr.ownsRow w.heap.size 3 1 v k ((rowL f k).map (Value.int .i64)) ∧ w.heap.size ≤ wr.heap.size ∧ Below w.heap.size w wr)
    (fun _ i _ => n - (intOf i).toNat)
  case atStart => exact ⟨0, by omega, rfl, World.ownsRow_nil _ _ _ _, Nat.le_refl _, Below.refl _ _⟩
  case round =>
    obtain ⟨k, hk, rfl, hown, hsz, hbr⟩ := hrel
    by_cases hlt : k < n
    · obtain ⟨i0, hi, hz0, hz1, hz2⟩ := info_parts infoInt
      have hfm : 0 ≤ f % 4096 := by omega
      have hfm2 : f % 4096 ≤ 4095 := by omega
      go_wp2_with (at_builtin; refine wpList_append_own_at _ rfl _ _ 22 rfl w.heap.size 3 i0 (.int .i64 0) 1 8 Try.underlying22 hi hz0 hz1 hz2 rfl (by decide) _ _ _ rfl (hown.alloc _) ⟨wr.heap.size, 0, none⟩ 1 1 [.int .i64 (f % 4096 + (k : Int))] rfl rfl ?c1 ?c2 ?c3 ?c4 ?c5 ?_)
      case c1 => exact cell_one_new _ _ _
      case c2 => intro u hu; simp at hu; subst hu; rfl
      case c3 => unfold maxLen; omega
      case c4 => omega
      case c5 => simp; omega
      intro v' w6 hown6 hgrow _ _
      have hown7 : w6.ownsRow w.heap.size 3 1 v' (k + 1) ((rowL f (k + 1)).map (Value.int .i64)) := by
        rw [rowL_succ, List.map_append]; exact hown6
      have hlt6 := hown.lt
      have hb6 : Below w.heap.size w w6 := (hbr.alloc hsz _).grown hgrow (by simp; omega) (fun q hq => (hlt6 q hq).1)
      have hs6 := hgrow.size
      simp only [World.size_alloc] at hs6
      clear hown6 hgrow hown hlt6 hi hz0 hz1 hz2
      go_wp2
      go_roundw
      case rel => exact ⟨k + 1, by omega, by go_num, hown7, by omega, hb6⟩
      case measure => simp [intOf]; omega
    · obtain rfl : k = n := by omega
      have FIN := hid (lawrow_fin hown hbr)
      clear hown
      go_wp2
      go_ret
      exact FIN.out

set_option maxHeartbeats 2000000 in
theorem lives7 (w : World) :
    Calls Try.prog 36 #[] w fun e w' => e = .returned (.bool true) ∧ Below w.heap.size w w' := by
  have R5 := hid (fun w => reads_built w [1, 2, 3, 4, 5] _ rfl (by simp [maxLen]))
  go_enter Try.func36, Try.ntmps36
  go_wp2_with fail
  refine (qnew 2 2 (by omega) _).mono ?_
  rintro e w1 ⟨q, p, r, rfl, hqu, hq, hp, hr, hbel⟩
  have HQ := hid (hqu.below ((Below.refl _ _).alloc (Nat.le_refl _) (.cells #[.int .i64 1, .int .i64 2, .int .i64 3, .int .i64 4, .int .i64 5] 3)))
  have hql := hqu.lt
  clear hqu
  go_wp2_with fail
  refine (qput q p 2 r [] [1, 2, 3, 4, 5] _ _ HQ.out (R5.out _) (by simp)).mono ?_
  rintro e w2 ⟨rfl, r', hb2, hon2, hr2⟩
  have HQ2 := hid (show Qu w2 q p 2 r' [1, 2, 3, 4, 5] from HQ.out.after hon2 hb2 hr2)
  clear hb2
  go_wp2_with fail
  refine (share_any q p 2 r' [1, 2, 3, 4, 5] _ HQ2.out 5 rfl 3 (by decide)).mono ?_
  rintro e w3 ⟨rfl, hq3⟩
  have hs := hbel.size
  go_wp2
  go_ret
  exact ⟨rfl, ((hbel.alloc hs _).trans (hon2.below hp (fun k hk => hr k hk) (by simp; omega))).trans (hq3.below _)⟩
end Go.Proofs.Ytpmggkngakdkhaa
