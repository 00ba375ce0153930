/- The contracts of package ring. -/
import Derived.Test.YtpmggkngakdkhaaRing
import Derived.RegionTactic
import Derived.ChangeAlike
import Derived.StillTailTactics
import Derived.Deep.QuietTactic
import Derived.BigQuiet
namespace Go.Proofs.Ytpmggkngakdkhaa
set_option linter.unusedVariables false
set_option linter.unusedSimpArgs false
open Go.RowKit

theorem Rg0.quiet {w w' : World} {p : Nat} {A : Nat → Int} {h n : Nat} {nx : Int} {hs : Bool} {st : Int} (H : Rg0 w p A h n nx hs st) (hq : Quiet w w') : Rg0 w' p A h n nx hs st := H.kept (by rw [hq.heap])

set_option maxHeartbeats 1000000 in
theorem push_full (p : Nat) (xs : List Int) (nx : Int) (hs : Bool) (st g : Int) (w : World) (H : Rg w p xs nx hs st) (hl : xs.length = 256) :
    Calls Try.prog 61 #[.pointer (some ⟨p, 0, none⟩), .int .i64 g] w fun e w' => e = .returned (.bool false) ∧ w = w' := by
  obtain ⟨A, h, H0, hx⟩ := H.ex
  have c := H0.c257
  rw [hl] at c
  clear hl hx H0 H
  go_enter Try.func61, Try.ntmps61
  go_wp2
  go_ret
  exact ⟨rfl, rfl⟩

/-- A ring is left so; nothing else is turned. -/
def RPost (p : Nat) (v : Value) (xs : List Int) (nx : Int) (hs : Bool) (st : Int) (w : World) (e : Ending) (w' : World) : Prop := e = .returned v ∧ Rg w' p xs nx hs st ∧ OnlyO p none w w'
theorem RPost.later {p : Nat} {v : Value} {xs : List Int} {nx : Int} {hs : Bool} {st : Int} {w : World} {e : Ending} {w' w2 : World} (h : RPost p v xs nx hs st w e w') (hq : Quiet w' w2) : RPost p v xs nx hs st w e w2 :=
  ⟨h.1, h.2.1.quiet hq, h.2.2.trans (OnlyO.quiet hq) (.inl rfl)⟩
theorem push_fin {p h m : Nat} {A : Nat → Int} {xs : List Int} {nx : Int} {hs : Bool} {st g : Int} {w w2 : World} (H0 : Rg0 w p A h xs.length nx hs st) (hx : ∀ i, i < xs.length → xs.getD i 0 = A ((h + i) % 256)) (hl : xs.length < 256) (hm : m = (h + xs.length) % 256) (hq : Quiet w w2) (k : Int) (hk : k = xs.length + 1) :
    RPost p (.bool true) (xs ++ [g]) nx hs st w (.returned (.bool true)) ((w2.setCell ⟨p, m, none⟩ (.int .i64 g)).setCell ⟨p, 257, none⟩ (.int .i64 k)) := by
  have hh := H0.hh
  have h1 := (H0.quiet hq).set_place m (by omega) g
  have h2 := h1.set_n (xs.length + 1) (by omega) k (by omega)
  subst hm
  refine ⟨rfl, ⟨⟨_, h, by rw [List.length_append, List.length_singleton]; exact h2, row_push g hx hl hh⟩⟩, ?_⟩
  exact ((OnlyO.quiet hq).trans (OnlyO.set w2 _ _) (.inl rfl)).trans (OnlyO.set _ _ _) (.inl rfl)

set_option maxHeartbeats 1000000 in
theorem push_any (p : Nat) (xs : List Int) (nx : Int) (hs : Bool) (st g : Int) (w : World) (H : Rg w p xs nx hs st) (hl : xs.length < 256) :
    Calls Try.prog 61 #[.pointer (some ⟨p, 0, none⟩), .int .i64 g] w (RPost p (.bool true) (xs ++ [g]) nx hs st w) := by
  obtain ⟨A, h, H0, hx⟩ := H.ex
  obtain ⟨n, hn⟩ : ∃ n, n = xs.length := ⟨_, rfl⟩
  obtain ⟨m, hm⟩ : ∃ m, m = (h + n) % 256 := ⟨_, rfl⟩
  have hh := H0.hh
  have c1 := H0.c256
  have c2 := H0.c257
  have c3 := H0.cell m (by omega)
  have f3 := H0.frz m
  have f2 := H0.frz 257
  rw [← hn] at c2 hl
  have hmi : ((h : Int) + n) % 256 = m := by omega
  have hm256 : m < 256 := by omega
  have FIN := hid (fun w2 hq k hk => push_fin (g := g) (m := m) (w2 := w2) H0 hx (by omega) (by rw [hm, hn]) hq k hk)
  rw [← hn] at FIN
  clear H H0 hx hn hm
  go_enter Try.func61, Try.ntmps61
  go_wp2_with fail
  go_region
  all_goals
    go_wp2
    go_ret
    exact RPost.later (FIN.out w (Quiet.refl _) _ rfl) ⟨1, rfl⟩

theorem OnlyO.set2 {p i j : Nat} {u v : Value} (w : World) : OnlyO p none w ((w.setCell ⟨p, i, none⟩ u).setCell ⟨p, j, none⟩ v) := (OnlyO.set w i u).trans (OnlyO.set _ j v) (.inl rfl)
theorem pop_fin {p h : Nat} {A : Nat → Int} {x : Int} {xs : List Int} {nx : Int} {hs : Bool} {st : Int} {w : World} (H0 : Rg0 w p A h (x :: xs).length nx hs st) (hx : ∀ i, i < (x :: xs).length → (x :: xs).getD i 0 = A ((h + i) % 256)) (k j : Int) (hk : k = ((h + 1) % 256 : Nat)) (hj : j = xs.length) :
    RPost p (.int .i64 x) xs nx hs st w (.returned (.int .i64 (A h))) ((w.setCell ⟨p, 256, none⟩ (.int .i64 k)).setCell ⟨p, 257, none⟩ (.int .i64 j)) := by
  have hh := H0.hh
  have hn := H0.hn
  obtain ⟨h1, h2⟩ := row_pop hx hh
  rw [List.length_cons] at hn
  exact ⟨by rw [h1], ⟨⟨A, (h + 1) % 256, (H0.set_head _ (by omega) k hk).set_n xs.length (by omega) j hj, h2⟩⟩, OnlyO.set2 w⟩

set_option maxHeartbeats 1000000 in
theorem pop_any (p : Nat) (x : Int) (xs : List Int) (nx : Int) (hs : Bool) (st : Int) (w : World) (H : Rg w p (x :: xs) nx hs st) :
    Calls Try.prog 64 #[.pointer (some ⟨p, 0, none⟩)] w (RPost p (.int .i64 x) xs nx hs st w) := by
  obtain ⟨A, h, H0, hx⟩ := H.ex
  obtain ⟨n, hn⟩ : ∃ n, n = (x :: xs).length := ⟨_, rfl⟩
  have hn' : n = xs.length + 1 := by simpa using hn
  have hh := H0.hh
  have hnb := H0.hn
  have c1 := H0.c256
  have c2 := H0.c257
  have c3 := H0.cell h hh
  have f1 := H0.frz 256
  have f2 := H0.frz 257
  rw [← hn] at c2 hnb
  obtain ⟨a, ha⟩ : ∃ a, a = A h := ⟨_, rfl⟩
  rw [← ha] at c3
  have FIN := hid (fun k j hk hj => pop_fin H0 hx k j hk hj)
  rw [← ha] at FIN
  have HN := hid hn'
  have hn1 : 1 ≤ n := by omega
  clear H H0 hx hn hn' ha
  go_enter Try.func64, Try.ntmps64
  go_wp2_with fail
  go_quiet (fail)
  all_goals
    go_wp2
    go_ret
    refine RPost.later (FIN.out _ _ ?_ ?_) ⟨_, rfl⟩
    · omega
    · have := HN.out; omega

set_option maxHeartbeats 1000000 in
theorem takeNext_any (p : Nat) (xs : List Int) (nx : Int) (hs : Bool) (st : Int) (w : World) (H : Rg w p xs nx hs st) :
    Calls Try.prog 63 #[.pointer (some ⟨p, 0, none⟩)] w (RPost p (.int .i64 nx) xs 0 false st w) := by
  obtain ⟨A, h, H0, hx⟩ := H.ex
  have c1 := H0.c258
  have c2 := H0.c259
  have f1 := H0.frz 258
  have f2 := H0.frz 259
  have FIN : Hid (RPost p (.int .i64 nx) xs 0 false st w (.returned (.int .i64 nx)) ((w.setCell ⟨p, 258, none⟩ (.int .i64 0)).setCell ⟨p, 259, none⟩ (.bool false))) := ⟨rfl, ⟨⟨A, h, (H0.set_next 0).set_has false, hx⟩⟩, OnlyO.set2 w⟩
  clear H H0 hx
  go_enter Try.func63, Try.ntmps63
  go_wp2
  go_ret
  exact FIN.out
end Go.Proofs.Ytpmggkngakdkhaa
