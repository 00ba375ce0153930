/- The document's ring as a value, beside blocks that it doesn't touch: Put, Ready, PutAll, Steal, Get, whatever the row is. -/
import Derived.Test.YtciilbpchejpcaaRefE
import Derived.Test.YtciilbpchejpcaaRing5
namespace Go.Proofs.Ytciilbpchejpcaa
set_option linter.unusedVariables false
set_option linter.unusedSimpArgs false
open Go.RowKit

/-- What an act of the value hands back: the row and what is told share no block with what the value's row didn't. -/
def RefSt (v0 : Value) (xs ys ts : List Int) (b : Bool) (nx st : Int) (w : World) (e : Ending) (w' : World) : Prop :=
  ∃ rv tv, e = .returned (.tuple #[.agg #[rv, .bool b, .int .i64 nx, .int .i64 st], tv]) ∧ (∀ q, q < w.heap.size → Stay w q none v0 xs → Stay w' q none rv ys) ∧ (∀ q, q < w.heap.size → Stay w' q none tv ts) ∧ Below w.heap.size w w'
theorem stay_nil (w : World) (p : Nat) : Stay w p none (.slice none 0 0) [] :=
  ⟨⟨none, 0, rfl, ⟨by simp, by unfold maxLen; omega, .inl ⟨rfl, rfl⟩⟩, fun h => absurd h (by simp)⟩, fun _ _ _ _ h => by simp at h⟩
theorem stay_rest {w w' : World} {p : Nat} {v v2 : Value} {xs ys : List Int} (h : Stay w p none v xs) (hb : Below w.heap.size w w') (hr : ∀ W, Reads W v xs → Reads W v2 ys) (hg : ∀ g o n c, v2 = .slice (some ⟨g, o, none⟩) n c → 0 < ys.length → ∃ o' n' c', v = .slice (some ⟨g, o', none⟩) n' c') (hl : ys.length ≤ xs.length) : Stay w' p none v2 ys :=
  ⟨hr _ (h.below hb).rd, fun g o n c he h0 => by
    obtain ⟨o', n', c', hv⟩ := hg g o n c he h0
    exact h.off g o' n' c' hv (by omega)⟩
theorem Owns.stays {w : World} {base p : Nat} {v : Value} {xs : List Int} (h : Owns w base v xs) (hp : p < base) : Stay w p none v xs := h.stay hp (fun k hk => by cases hk)

theorem RefPut.st {v0 : Value} {xs ys : List Int} {b : Bool} {nx st : Int} {w : World} {e : Ending} {w' : World} (h : RefPut ys b nx st w e w') : RefSt v0 xs ys [] b nx st w e w' := by
  obtain ⟨rv, he, ho, hb⟩ := h
  exact ⟨rv, _, he, fun q hq _ => ho.stays hq, fun q _ => stay_nil w' q, hb⟩
theorem RefTail.st {rv : Value} {xs ys ts : List Int} {b : Bool} {nx st : Int} {w : World} {e : Ending} {w' : World} (h : RefTail rv xs ys ts b nx st w e w') (hl : ys.length ≤ xs.length) : RefSt rv xs ys ts b nx st w e w' := by
  obtain ⟨rv', tv, he, hr, hg, ho, hb⟩ := h
  exact ⟨rv', tv, he, fun q _ hs => stay_rest hs hb hr hg hl, fun q hq => ho.stays hq, hb⟩

theorem refput_st (rv : Value) (xs : List Int) (b : Bool) (nx st g : Int) (w : World) (hs : Reads w rv xs) (hl : xs.length ≤ 256) :
    Calls Try.prog 76 #[.agg #[rv, .bool b, .int .i64 nx, .int .i64 st], .int .i64 g] w (RefSt rv xs (putL xs g) (putT xs g) b nx st w) := by
  rcases Nat.lt_or_ge xs.length 256 with h | h
  · rw [show putL xs g = xs ++ [g] by simp [putL, h], show putT xs g = [] by simp [putT, h]]
    exact (refput_room rv xs b nx st g w hs h).mono fun _ _ hh => hh.st
  · have h6 : xs.length = 256 := by omega
    have hn : ¬ xs.length < 256 := by omega
    rw [show putL xs g = xs.drop 128 by simp [putL, hn], show putT xs g = xs.take 128 ++ [g] by simp [putT, hn]]
    exact (refput_full rv xs b nx st g w hs h6).mono fun _ _ hh => hh.st (by simp)
theorem refready_st (rv : Value) (xs : List Int) (nx st g : Int) (w : World) (hs : Reads w rv xs) (hl : xs.length ≤ 256) :
    Calls Try.prog 77 #[.agg #[rv, .bool true, .int .i64 nx, .int .i64 st], .int .i64 g] w (RefSt rv xs (putL xs nx) (putT xs nx) true g st w) := by
  rcases Nat.lt_or_ge xs.length 256 with h | h
  · rw [show putL xs nx = xs ++ [nx] by simp [putL, h], show putT xs nx = [] by simp [putT, h]]
    exact (refready_room rv xs nx st g w hs h).mono fun _ _ hh => hh.st
  · have h6 : xs.length = 256 := by omega
    have hn : ¬ xs.length < 256 := by omega
    rw [show putL xs nx = xs.drop 128 by simp [putL, hn], show putT xs nx = xs.take 128 ++ [nx] by simp [putT, hn]]
    exact (refready_full rv xs nx st g w hs h6).mono fun _ _ hh => hh.st (by simp)
theorem refready_st0 (rv : Value) (xs : List Int) (nx st g : Int) (w : World) (hs : Reads w rv xs) :
    Calls Try.prog 77 #[.agg #[rv, .bool false, .int .i64 nx, .int .i64 st], .int .i64 g] w (RefSt rv xs xs [] true g st w) := by
  obtain ⟨a, c, rfl, _⟩ := id hs
  exact (refready_none a _ c nx st g w).mono fun _ w' ⟨he, hb⟩ => ⟨_, _, he, fun q _ h => h.below hb, fun q _ => stay_nil w' q, hb⟩

theorem take_min {ys : List Int} {K m : Nat} (h : (K : Int) = min (max (m : Int) 0) (ys.length : Int)) : ys.take K = ys.take m ∧ ys.drop K = ys.drop m := by
  rcases Nat.lt_or_ge m ys.length with h1 | h1
  · have : K = m := by omega
    subst this; exact ⟨rfl, rfl⟩
  · have : K = ys.length := by omega
    subst this
    exact ⟨by rw [List.take_length, List.take_of_length_le h1], by rw [List.drop_length, List.drop_eq_nil_of_le h1]⟩
/-- What PutAll of the value hands back: the row is new, what is told shares with what was put. -/
def RefSA (lv : Value) (ls ys ts : List Int) (b : Bool) (nx st : Int) (w : World) (e : Ending) (w' : World) : Prop :=
  ∃ rv tv, e = .returned (.tuple #[.agg #[rv, .bool b, .int .i64 nx, .int .i64 st], tv]) ∧ Owns w' w.heap.size rv ys ∧ (∀ q, Stay w q none lv ls → Stay w' q none tv ts) ∧ Below w.heap.size w w'
theorem refputall_st (rv lv : Value) (xs ys : List Int) (b : Bool) (nx st : Int) (w : World) (hs : Reads w rv xs) (hy : Reads w lv ys) (hl : xs.length ≤ 256) (hyl : ys.length ≤ 10000) :
    Calls Try.prog 78 #[.agg #[rv, .bool b, .int .i64 nx, .int .i64 st], lv] w (RefSA lv ys (xs ++ ys.take (256 - xs.length)) (ys.drop (256 - xs.length)) b nx st w) := by
  have hK : ((min (256 - xs.length) ys.length : Nat) : Int) = ((min (max (256 - xs.length) 0) ys.length : Nat) : Int) := by omega
  have e := take_min (ys := ys) (K := min (256 - xs.length) ys.length) (m := 256 - xs.length) (by omega)
  have h := refputall_any rv lv xs ys b nx st _ w hs hy hl hyl hK
  rw [e.1, e.2] at h
  exact h.mono fun _ w' ⟨rv', tv, he, ho, hr, hg, hb⟩ => ⟨rv', tv, he, ho, fun q hq => ⟨hr, fun g o n c h1 h2 => by
    obtain ⟨o', n', c', hv⟩ := hg g o n c h1 h2
    exact hq.off g o' n' c' hv (by rw [List.length_drop] at h2; omega)⟩, hb⟩
theorem refsteal_st (rv : Value) (xs : List Int) (b : Bool) (nx st : Int) (w : World) (hs : Reads w rv xs) (hl : xs.length ≤ 256) (h0 : 0 < xs.length) :
    Calls Try.prog 79 #[.agg #[rv, .bool b, .int .i64 nx, .int .i64 st]] w (RefSt rv xs (xs.drop ((xs.length + 1) / 2)) (xs.take ((xs.length + 1) / 2)) b nx st w) := by
  have h := refsteal_some rv xs b nx st ((xs.length + 1) / 2) w hs hl h0 (by omega)
  exact h.mono fun _ w' ⟨rv', tv, he, hr, hg, ho, hb⟩ => ⟨rv', tv, he, fun q _ hq => ⟨hr, fun g o n c h1 h2 => by
    obtain ⟨o', n', c', hv⟩ := hg g o n c h1 h2
    exact hq.off g o' n' c' hv h0⟩, fun q hq => ho.stays hq, hb⟩
theorem refsteal_st0 (rv : Value) (nx st : Int) (w : World) (hs : Reads w rv []) :
    Calls Try.prog 79 #[.agg #[rv, .bool false, .int .i64 nx, .int .i64 st]] w (RefSt rv [] [] [] false nx st w) := by
  obtain ⟨a, c, rfl, _⟩ := id hs
  exact (refsteal_nothing a c nx st w).mono fun _ w' ⟨he, hb⟩ => ⟨_, _, he, fun q _ h => h.below hb, fun q _ => stay_nil w' q, hb⟩
theorem refsteal_st1 (rv : Value) (nx st : Int) (w : World) (hs : Reads w rv []) :
    Calls Try.prog 79 #[.agg #[rv, .bool true, .int .i64 nx, .int .i64 st]] w (RefSt rv [] [] [nx] false 0 0 w) := by
  obtain ⟨a, c, rfl, _⟩ := id hs
  exact (refsteal_next a c nx st w).mono fun _ w' ⟨tv, he, ho, hb⟩ => ⟨_, tv, he, fun q _ _ => stay_nil w' q, fun q hq => ho.stays hq, hb⟩

/-- What a Get of the value hands back. -/
def RefGt (v0 : Value) (xs ys : List Int) (g : Int) (ok b : Bool) (nx st : Int) (w : World) (e : Ending) (w' : World) : Prop :=
  ∃ rv, e = .returned (.tuple #[.agg #[rv, .bool b, .int .i64 nx, .int .i64 st], .int .i64 g, .bool ok]) ∧ (∀ q, q < w.heap.size → Stay w q none v0 xs → Stay w' q none rv ys) ∧ Below w.heap.size w w'
theorem refget_st_last (rv : Value) (nx st : Int) (w : World) (hs : Reads w rv []) (h0 : 0 ≤ st) (h4 : st ≤ 4) :
    Calls Try.prog 81 #[.agg #[rv, .bool true, .int .i64 nx, .int .i64 st]] w (RefGt rv [] [] nx true false 0 0 w) := by
  obtain ⟨a, c, rfl, _⟩ := id hs
  exact (refget_last a c nx st w h0 h4).mono fun _ w' ⟨he, hb⟩ => ⟨_, he, fun q _ h => h.below hb, hb⟩
theorem refget_st_inherit (rv : Value) (xs : List Int) (nx st : Int) (w : World) (hs : Reads w rv xs) (h0 : 0 ≤ st) (h4 : st < 4) (hn : 0 < xs.length) (hl : xs.length ≤ 256) :
    Calls Try.prog 81 #[.agg #[rv, .bool true, .int .i64 nx, .int .i64 st]] w (RefGt rv xs xs nx true false 0 (st + 1) w) := by
  obtain ⟨a, c, rfl, _⟩ := id hs
  exact (refget_inherit a _ c nx st w h0 h4 hn hl).mono fun _ w' ⟨he, hb⟩ => ⟨_, he, fun q _ h => h.below hb, hb⟩
theorem refget_st_none (rv : Value) (nx st : Int) (w : World) (hs : Reads w rv []) :
    Calls Try.prog 81 #[.agg #[rv, .bool false, .int .i64 nx, .int .i64 st]] w (RefGt rv [] [] 0 false false nx st w) :=
  (refget_none rv nx st w hs).mono fun _ w' ⟨he, hb⟩ => ⟨_, he, fun q _ h => h.below hb, hb⟩
theorem refget_st_row (rv : Value) (x : Int) (xs : List Int) (nx st : Int) (w : World) (hs : Reads w rv (x :: xs)) (hl : (x :: xs).length ≤ 256) :
    Calls Try.prog 81 #[.agg #[rv, .bool false, .int .i64 nx, .int .i64 st]] w (RefGt rv (x :: xs) xs x true false nx 0 w) :=
  (refget_row rv x xs nx st w hs hl).mono fun _ w' ⟨rv', he, hr, hg, hb⟩ => ⟨rv', he, fun q _ h => stay_rest h hb hr hg (by simp), hb⟩
theorem refget_st_join (rv : Value) (x : Int) (xs : List Int) (nx st : Int) (w : World) (hs : Reads w rv (x :: xs)) (hl : (x :: xs).length ≤ 256) (h4 : 4 ≤ st) :
    Calls Try.prog 81 #[.agg #[rv, .bool true, .int .i64 nx, .int .i64 st]] w (RefGt rv (x :: xs) (xs ++ [nx]) x true false 0 0 w) :=
  (refget_join rv x xs nx st w hs hl h4).mono fun _ w' ⟨rv', he, ho, hb⟩ => ⟨rv', he, fun q hq _ => ho.stays hq, hb⟩
end Go.Proofs.Ytciilbpchejpcaa
