/- The contract of layer 6's 'do': an act, of both, of any kind. -/
import Derived.Test.YtciilbpchejpcaaDo6g
namespace Go.Proofs.Ytciilbpchejpcaa
set_option linter.unusedVariables false
set_option linter.unusedSimpArgs false
open Go.RowKit

/-- An act of both was done: there is a row that both have. -/
def RDoX (p : Nat) (v0 : Value) (xs : List Int) (w : World) (e : Ending) (w' : World) : Prop := ∃ ys b nx st, RDo p v0 xs ys b nx st w e w' ∧ ys.length ≤ 256 ∧ 0 ≤ st ∧ st ≤ 4 ∧ (b = false → nx = 0)
theorem putL_le (xs : List Int) (g : Int) (h : xs.length ≤ 256) : (putL xs g).length ≤ 256 := by
  unfold putL; split <;> simp <;> omega
theorem putT_le (xs : List Int) (g : Int) : (putT xs g).length ≤ 1000 := by
  unfold putT; split <;> simp; omega
theorem do6_any (p : Nat) (xs : List Int) (nx : Int) (hs : Bool) (st : Int) (wv : Value) (K G M : Int) (w : World) (H : Rg w p xs nx hs st) (hw : Stay w p none wv xs) (h0 : 0 ≤ st) (h4 : st ≤ 4) (hn : hs = false → nx = 0)
    (hK0 : 0 ≤ K) (hK1 : K ≤ 255) (hM0 : 0 ≤ M) (hM1 : M ≤ 65535) :
    Calls Try.prog 41 #[.pointer (some ⟨p, 0, none⟩), .agg #[wv, .bool hs, .int .i64 nx, .int .i64 st], .agg #[.int .u8 K, .int .i64 G, .int .u16 M]] w (RDoX p wv xs w) := by
  have hx := H.le
  have ne : ∀ c : Int, K % 9 ≠ c → (K % 9 == c) = false := fun c h => beq_eq_false_iff_ne.2 h
  have eq : ∀ c : Int, K % 9 = c → (K % 9 == c) = true := fun c h => by simp [h]
  obtain hk | hk | hk | hk | hk | hk | hk | hk | hk : K % 9 = 0 ∨ K % 9 = 1 ∨ K % 9 = 2 ∨ K % 9 = 3 ∨ K % 9 = 4 ∨ K % 9 = 5 ∨ K % 9 = 6 ∨ K % 9 = 7 ∨ K % 9 = 8 := by omega
  · exact (do6_put0 p xs nx hs st wv K G M w H hw (putL xs G) (putT xs G) hs nx st (fun W h => refput_st wv xs hs nx st G W h hx) (fun W h => put_r p xs nx hs st G W h) (putT_le xs G) hK0 hK1 (eq 0 hk)).mono fun _ _ h => ⟨_, _, _, _, h, putL_le xs G hx, h0, h4, hn⟩
  · exact (do6_put1 p xs nx hs st wv K G M w H hw (putL xs G) (putT xs G) hs nx st (fun W h => refput_st wv xs hs nx st G W h hx) (fun W h => put_r p xs nx hs st G W h) (putT_le xs G) hK0 hK1 (ne 0 (by omega)) (eq 1 hk)).mono fun _ _ h => ⟨_, _, _, _, h, putL_le xs G hx, h0, h4, hn⟩
  · rcases hs with _ | _
    · exact (do6_ready2 p xs nx false st wv K G M w H hw xs [] true G st (fun W h => refready_st0 wv xs nx st G W h) (fun W h => ready_no p xs nx st G W h) (by simp) hK0 hK1 (ne 0 (by omega)) (ne 1 (by omega)) (eq 2 hk)).mono fun _ _ h => ⟨_, _, _, _, h, hx, h0, h4, fun h => by cases h⟩
    · exact (do6_ready2 p xs nx true st wv K G M w H hw (putL xs nx) (putT xs nx) true G st (fun W h => refready_st wv xs nx st G W h hx) (fun W h => ready_yes p xs nx st G W h) (putT_le xs nx) hK0 hK1 (ne 0 (by omega)) (ne 1 (by omega)) (eq 2 hk)).mono fun _ _ h => ⟨_, _, _, _, h, putL_le xs nx hx, h0, h4, fun h => by cases h⟩
  · rcases hs with _ | _
    · exact (do6_ready3 p xs nx false st wv K G M w H hw xs [] true G st (fun W h => refready_st0 wv xs nx st G W h) (fun W h => ready_no p xs nx st G W h) (by simp) hK0 hK1 (ne 0 (by omega)) (ne 1 (by omega)) (ne 2 (by omega)) (eq 3 hk)).mono fun _ _ h => ⟨_, _, _, _, h, hx, h0, h4, fun h => by cases h⟩
    · exact (do6_ready3 p xs nx true st wv K G M w H hw (putL xs nx) (putT xs nx) true G st (fun W h => refready_st wv xs nx st G W h hx) (fun W h => ready_yes p xs nx st G W h) (putT_le xs nx) hK0 hK1 (ne 0 (by omega)) (ne 1 (by omega)) (ne 2 (by omega)) (eq 3 hk)).mono fun _ _ h => ⟨_, _, _, _, h, putL_le xs nx hx, h0, h4, fun h => by cases h⟩
  · exact (do6_putall p xs nx hs st wv K G M w H hw hx hM0 hM1 _ rfl hK0 hK1 (ne 0 (by omega)) (ne 1 (by omega)) (ne 2 (by omega)) (ne 3 (by omega)) (eq 4 hk)).mono fun _ _ h => ⟨_, _, _, _, h, by rw [List.length_append, List.length_take]; omega, h0, h4, hn⟩
  · rcases xs with _ | ⟨x, xs⟩ <;> rcases hs with _ | _
    · exact (do6_get p [] nx false st wv K G M w H hw [] 0 false false nx st (fun W h => refget_st_none wv nx st W h) (fun W h => get_none p nx st W h) hK0 hK1 (ne 0 (by omega)) (ne 1 (by omega)) (ne 2 (by omega)) (ne 3 (by omega)) (ne 4 (by omega)) (ne 7 (by omega)) (ne 8 (by omega))).mono fun _ _ h => ⟨_, _, _, _, h, by simp, h0, h4, hn⟩
    · exact (do6_get p [] nx true st wv K G M w H hw [] nx true false 0 0 (fun W h => refget_st_last wv nx st W h h0 h4) (fun W h => get_last p nx st W h) hK0 hK1 (ne 0 (by omega)) (ne 1 (by omega)) (ne 2 (by omega)) (ne 3 (by omega)) (ne 4 (by omega)) (ne 7 (by omega)) (ne 8 (by omega))).mono fun _ _ h => ⟨_, _, _, _, h, by simp, by omega, by omega, fun _ => rfl⟩
    · exact (do6_get p (x :: xs) nx false st wv K G M w H hw xs x true false nx 0 (fun W h => refget_st_row wv x xs nx st W h hx) (fun W h => get_row_no p x xs nx st W h) hK0 hK1 (ne 0 (by omega)) (ne 1 (by omega)) (ne 2 (by omega)) (ne 3 (by omega)) (ne 4 (by omega)) (ne 7 (by omega)) (ne 8 (by omega))).mono fun _ _ h => ⟨_, _, _, _, h, by simp at hx; omega, by omega, by omega, hn⟩
    · rcases Int.lt_or_le st 4 with h | h
      · exact (do6_get p (x :: xs) nx true st wv K G M w H hw (x :: xs) nx true false 0 (st + 1) (fun W hh => refget_st_inherit wv (x :: xs) nx st W hh h0 h (by simp) hx) (fun W hh => get_inherit p (x :: xs) nx st W hh (by simp) h0 h) hK0 hK1 (ne 0 (by omega)) (ne 1 (by omega)) (ne 2 (by omega)) (ne 3 (by omega)) (ne 4 (by omega)) (ne 7 (by omega)) (ne 8 (by omega))).mono fun _ _ h => ⟨_, _, _, _, h, hx, by omega, by omega, fun _ => rfl⟩
      · exact (do6_get p (x :: xs) nx true st wv K G M w H hw (xs ++ [nx]) x true false 0 0 (fun W hh => refget_st_join wv x xs nx st W hh hx h) (fun W hh => get_row_yes p x xs nx st W hh h) hK0 hK1 (ne 0 (by omega)) (ne 1 (by omega)) (ne 2 (by omega)) (ne 3 (by omega)) (ne 4 (by omega)) (ne 7 (by omega)) (ne 8 (by omega))).mono fun _ _ h => ⟨_, _, _, _, h, by simp at hx ⊢; omega, by omega, by omega, fun _ => rfl⟩
  · rcases xs with _ | ⟨x, xs⟩ <;> rcases hs with _ | _
    · exact (do6_get p [] nx false st wv K G M w H hw [] 0 false false nx st (fun W h => refget_st_none wv nx st W h) (fun W h => get_none p nx st W h) hK0 hK1 (ne 0 (by omega)) (ne 1 (by omega)) (ne 2 (by omega)) (ne 3 (by omega)) (ne 4 (by omega)) (ne 7 (by omega)) (ne 8 (by omega))).mono fun _ _ h => ⟨_, _, _, _, h, by simp, h0, h4, hn⟩
    · exact (do6_get p [] nx true st wv K G M w H hw [] nx true false 0 0 (fun W h => refget_st_last wv nx st W h h0 h4) (fun W h => get_last p nx st W h) hK0 hK1 (ne 0 (by omega)) (ne 1 (by omega)) (ne 2 (by omega)) (ne 3 (by omega)) (ne 4 (by omega)) (ne 7 (by omega)) (ne 8 (by omega))).mono fun _ _ h => ⟨_, _, _, _, h, by simp, by omega, by omega, fun _ => rfl⟩
    · exact (do6_get p (x :: xs) nx false st wv K G M w H hw xs x true false nx 0 (fun W h => refget_st_row wv x xs nx st W h hx) (fun W h => get_row_no p x xs nx st W h) hK0 hK1 (ne 0 (by omega)) (ne 1 (by omega)) (ne 2 (by omega)) (ne 3 (by omega)) (ne 4 (by omega)) (ne 7 (by omega)) (ne 8 (by omega))).mono fun _ _ h => ⟨_, _, _, _, h, by simp at hx; omega, by omega, by omega, hn⟩
    · rcases Int.lt_or_le st 4 with h | h
      · exact (do6_get p (x :: xs) nx true st wv K G M w H hw (x :: xs) nx true false 0 (st + 1) (fun W hh => refget_st_inherit wv (x :: xs) nx st W hh h0 h (by simp) hx) (fun W hh => get_inherit p (x :: xs) nx st W hh (by simp) h0 h) hK0 hK1 (ne 0 (by omega)) (ne 1 (by omega)) (ne 2 (by omega)) (ne 3 (by omega)) (ne 4 (by omega)) (ne 7 (by omega)) (ne 8 (by omega))).mono fun _ _ h => ⟨_, _, _, _, h, hx, by omega, by omega, fun _ => rfl⟩
      · exact (do6_get p (x :: xs) nx true st wv K G M w H hw (xs ++ [nx]) x true false 0 0 (fun W hh => refget_st_join wv x xs nx st W hh hx h) (fun W hh => get_row_yes p x xs nx st W hh h) hK0 hK1 (ne 0 (by omega)) (ne 1 (by omega)) (ne 2 (by omega)) (ne 3 (by omega)) (ne 4 (by omega)) (ne 7 (by omega)) (ne 8 (by omega))).mono fun _ _ h => ⟨_, _, _, _, h, by simp at hx ⊢; omega, by omega, by omega, fun _ => rfl⟩
  · rcases xs with _ | ⟨x, xs⟩
    · rcases hs with _ | _
      · exact (do6_steal p [] nx false st wv K G M w H hw [] [] false nx st (fun W h => refsteal_st0 wv nx st W h) (fun W h => steal_none p nx st W h) (by simp) hK0 hK1 (ne 0 (by omega)) (ne 1 (by omega)) (ne 2 (by omega)) (ne 3 (by omega)) (ne 4 (by omega)) (eq 7 hk)).mono fun _ _ h => ⟨_, _, _, _, h, by simp, h0, h4, hn⟩
      · exact (do6_steal p [] nx true st wv K G M w H hw [] [nx] false 0 0 (fun W h => refsteal_st1 wv nx st W h) (fun W h => steal_next p nx st W h) (by simp) hK0 hK1 (ne 0 (by omega)) (ne 1 (by omega)) (ne 2 (by omega)) (ne 3 (by omega)) (ne 4 (by omega)) (eq 7 hk)).mono fun _ _ h => ⟨_, _, _, _, h, by simp, by omega, by omega, fun _ => rfl⟩
    · exact (do6_steal p (x :: xs) nx hs st wv K G M w H hw _ _ hs nx st (fun W h => refsteal_st wv (x :: xs) hs nx st W h hx (by simp)) (fun W h => steal_row p (x :: xs) nx hs st W h (by simp)) (by rw [List.length_take]; omega) hK0 hK1 (ne 0 (by omega)) (ne 1 (by omega)) (ne 2 (by omega)) (ne 3 (by omega)) (ne 4 (by omega)) (eq 7 hk)).mono fun _ _ h => ⟨_, _, _, _, h, by rw [List.length_drop]; omega, h0, h4, hn⟩
  · exact (do6_copy p xs nx hs st wv K G M w H hw h0 h4 hK0 hK1 (ne 0 (by omega)) (ne 1 (by omega)) (ne 2 (by omega)) (ne 3 (by omega)) (ne 4 (by omega)) (ne 7 (by omega)) (eq 8 hk)).mono fun _ _ h => ⟨_, _, _, _, h, hx, h0, h4, hn⟩
end Go.Proofs.Ytciilbpchejpcaa
