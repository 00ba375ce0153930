/- RingKeeps' closure 'tell': what is told is seen. -/
import Derived.Test.YtpmggkngakdkhaaLives06
import Derived.Test.YtpmggkngakdkhaaCmR
import Derived.Test.YtpmggkngakdkhaaFrZ
namespace Go.Proofs.Ytpmggkngakdkhaa
set_option linter.unusedVariables false
set_option linter.unusedSimpArgs false
open Go.RowKit

theorem only_cell {w w' : World} {b : Nat} (o : Only b b w w') {a : Addr} {v : Value} (h : w.cell? a = some v) (hb : a.block ≠ b) : w'.cell? a = some v := by
  have hl := cell_lt h
  rw [← h]
  exact World.cell?_of_block (o.block _ hl hb hb)
theorem tell_next {ks ys : List Int} {k : Nat} (hk : k < ys.length) (hn : ys.Nodup) (hd : ∀ y ∈ ys, y ∉ ks) : ys.getD k 0 ∉ ks ++ ys.take k := by
  have e : ys.getD k 0 = ys[k] := by rw [List.getD_eq_getElem?_getD, List.getElem?_eq_getElem hk, Option.getD_some]
  rw [e, List.mem_append, not_or]
  refine ⟨hd _ (List.getElem_mem hk), fun hm => ?_⟩
  obtain ⟨j, hj, he⟩ := List.getElem_of_mem hm
  rw [List.length_take] at hj
  rw [List.getElem_take] at he
  exact List.pairwise_iff_getElem.1 hn j k (by omega) hk (by omega) he
set_option maxHeartbeats 4000000 in
theorem tell_c (sb mb : Nat) (v : Value) (ks ys : List Int) (w : World) (hs : w.heap[sb]? = some (.cells #[.map (some mb)] 56 (0, 0))) (hc : Cm w mb ks) (hv : Stay w mb none v ys) (hn : ys.Nodup) (hd : ∀ y ∈ ys, y ∉ ks) (hl : ys.length ≤ 100000) :
    Calls Try.prog 29 #[v, .pointer (some ⟨sb, 0, none⟩)] w fun e w' => e = .returned (.tuple #[]) ∧ Cm w' mb (ks ++ ys) ∧ Only mb mb w w' := by
  have hoff := hv.off
  obtain ⟨a1, c1, rfl, _, h1⟩ := hv.rd
  obtain ⟨n, hn2⟩ : ∃ n, n = ys.length := ⟨_, rfl⟩
  rw [← hn2] at hl h1 hoff ⊢
  have H1 := hid h1
  have HN := hid hn2
  have HO := hid hoff
  have HC := hid (show Cm w mb (ks ++ ys.take 0) ∧ Only mb mb w w from ⟨by simpa using hc, ⟨rfl, rfl, rfl, Nat.le_refl _, fun _ _ _ _ => rfl⟩⟩)
  have HD := hid (And.intro hn hd)
  have HS := hid hs
  have hsm : sb ≠ mb := fun e => by
    obtain ⟨g, q, _⟩ := hc
    obtain ⟨es, clock, h2, _⟩ := q.h
    rw [← e, hs] at h2; cases h2
  clear hv hoff h1 hn2 hn hd hs hc
  go_enter Try.func29, Try.ntmps29
  go_wp2_with fail
  go_loopw [7] (fun i wr => ∃ (k : Nat), k ≤ n ∧ i = .int .i64 k ∧ Hid (Cm wr mb (ks ++ ys.take k) ∧ Only mb mb w wr)) (fun i _ => n - (intOf i).toNat)
  case atStart => exact ⟨0, Nat.zero_le _, rfl, HC⟩
  case round =>
    clear HC
    obtain ⟨k, hk, rfl, F⟩ := hrel
    by_cases hlt : k < n
    · have k1 : k < ys.length := by rw [← HN.out]; exact hlt
      obtain ⟨g1, o1, rfl, hg1, hc1⟩ := H1.out (by omega)
      have gne := (HO.out g1 o1 n c1 rfl (by omega)).1
      obtain ⟨x, hx⟩ : ∃ x, x = ys.getD k 0 := ⟨_, rfl⟩
      have q1 := only_cell F.out.2 (hc1 k hlt) gne
      rw [← hx] at q1
      have c0 : wr.cell? ⟨sb, 0, none⟩ = some (.map (some mb)) := cellx (only_blk F.out.2 HS.out hsm) rfl
      have hni := tell_next k1 HD.out.1 HD.out.2
      rw [← hx] at hni
      have lk := F.out.1.miss hni
      obtain ⟨w6, s6, c6, o6⟩ := F.out.1.put hni
      have F6 : Hid (Cm w6 mb (ks ++ ys.take (k + 1)) ∧ Only mb mb w w6) := hid ⟨by rw [lst_take_snoc ys k k1, ← hx, ← List.append_assoc]; exact c6, F.out.2.trans o6⟩
      clear hx hc1 hg1 gne c6 o6 hni F
      go_wp2
      go_roundw
      case rel => exact ⟨k + 1, by omega, by go_num, F6⟩
      case measure => simp [intOf]; omega
    · obtain rfl : k = n := by omega
      have FIN := hid (show Cm wr mb (ks ++ ys) ∧ Only mb mb w wr by have := F.out; rw [List.take_of_length_le (by rw [← HN.out]; omega)] at this; exact this)
      go_wp2
      go_end0
      exact ⟨rfl, FIN.out⟩
end Go.Proofs.Ytpmggkngakdkhaa
