/- The document's poll as rows: what its functions answer, and that this is the program's. Of no program of its own. -/
import Derived.Test.YtaogpodncphpjaaPre2
namespace Go.Proofs.Ytaogpodncphpjaa
set_option linter.unusedVariables false
set_option linter.unusedSimpArgs false
open Go.RowKit
/-- Who waits for a descriptor; below 0: nobody. -/
def rwho (V : List (Int × Int)) (fd : Int) : Int := match V with
  | [] => -1
  | e :: V => if e.1 = fd then e.2 else rwho V fd
def rlen (V : List (Int × Int)) (S : List Int) : Nat := S.length + (V.filter fun e => !decide (e.1 ∈ S)).length
theorem rwho_mem {fd y : Int} : ∀ {V : List (Int × Int)}, (V.map Prod.fst).Nodup → (fd, y) ∈ V → rwho V fd = y
  | e :: V, hn, h => by
    simp only [List.map_cons, List.nodup_cons] at hn
    unfold rwho
    rcases List.mem_cons.1 h with rfl | h
    · rw [if_pos rfl]
    · rw [if_neg (fun q => hn.1 (List.mem_map.2 ⟨_, h, q.symm⟩))]
      exact rwho_mem hn.2 h
theorem rwho_no {fd : Int} : ∀ {V : List (Int × Int)}, fd ∉ V.map Prod.fst → rwho V fd = -1
  | [], _ => rfl
  | e :: V, h => by
    simp only [List.map_cons, List.mem_cons, not_or] at h
    unfold rwho
    rw [if_neg (fun q => h.1 q.symm)]
    exact rwho_no h.2
theorem both_len : ∀ {S F : List Int}, S.Nodup → F.Nodup → (S.filter fun a => decide (a ∈ F)).length = (F.filter fun a => decide (a ∈ S)).length
  | [], F, _, _ => by
    rw [show (F.filter fun a => decide (a ∈ ([] : List Int))) = [] from List.filter_eq_nil_iff.2 (by simp)]
    rfl
  | a :: S, F, hs, hf => by
    have ih := both_len (List.nodup_cons.1 hs).2 hf
    have ha := (List.nodup_cons.1 hs).1
    by_cases h : a ∈ F
    · rw [List.filter_cons_of_pos (by simpa using h), List.length_cons, ih]
      exact (filt_step (f := fun x => decide (x ∈ S)) (f' := fun x => decide (x ∈ a :: S)) hf h (by simpa using ha) (by simp) (fun x _ hne => by simp [hne])).symm
    · rw [List.filter_cons_of_neg (by simpa using h), ih]
      exact (filt_same (f := fun x => decide (x ∈ S)) (f' := fun x => decide (x ∈ a :: S)) (fun x hx => by
        have : x ≠ a := fun e => h (e ▸ hx)
        simp [this])).symm
theorem filt_not {α : Type} (f : α → Bool) : ∀ l : List α, (l.filter f).length + (l.filter fun a => !f a).length = l.length
  | [] => rfl
  | a :: l => by
    have := filt_not f l
    cases h : f a <;> simp [List.filter_cons, h] <;> omega
theorem rlen_plen {V : List (Int × Int)} {S : List Int} (hv : (V.map Prod.fst).Nodup) (hs : S.Nodup) : rlen V S = plen V.reverse S.reverse := by
  unfold rlen plen
  have h1 := filt_not (fun e : Int × Int => decide (e.1 ∈ S)) V
  have h2 := filt_not (fun a => waitsF V a) S
  have h3 : (S.filter fun a => waitsF V a).length = (V.filter fun e => decide (e.1 ∈ S)).length := by
    have := both_len hs hv
    unfold waitsF
    rw [this, ← List.length_map (f := Prod.fst)]
    congr 1
    rw [List.filter_map]
    rfl
  have h4 : (fun a => !waitsF V.reverse a) = fun a => !waitsF V a := funext fun a => by simp [waitsF]
  rw [List.length_reverse, h4, List.filter_reverse, List.length_reverse]
  omega
end Go.Proofs.Ytaogpodncphpjaa
