/- Plain facts: processors and machines that stand once (of package idle), and two arrays of 8 that count them. -/
import Derived.Test.YtcbdmofdbmimfaaDoorIds4
namespace Go.Proofs.YtcbdmofdbmimfaaDoor
set_option linter.unusedVariables false
set_option linter.unusedSimpArgs false
open Go.RowKit

structure Onc (f : Nat → Bool) (pd ss : List Int) (pl : Int) : Prop where
  pn : pd.Nodup
  pb : ∀ a ∈ pd, ∃ k : Nat, a = k ∧ k < 8 ∧ f k = false
  sn : ss.Nodup
  sb : ∀ a ∈ ss, ∃ k : Nat, a = k ∧ k < 8 ∧ a ≠ pl
  pr : pl = -1 ∨ ∃ k : Nat, pl = k ∧ k < 8
def inP (f : Nat → Bool) (pd : List Int) (i : Nat) : Bool := f i || hasB i pd
def inM (ss : List Int) (pl : Int) (i : Nat) : Bool := hasB i ss || decide (pl = i)
theorem hasB_cons (g x : Int) (xs : List Int) : hasB g (x :: xs) = (decide (g = x) || hasB g xs) := by simp [hasB, Bool.decide_or]
theorem hasB_of_mem {g : Int} {xs : List Int} (h : g ∈ xs) : hasB g xs = true := by simp [hasB, h]
theorem hasB_no {g : Int} {xs : List Int} (h : hasB g xs = false) : g ∉ xs := by simpa [hasB] using h
theorem Onc.nil : Onc (fun _ => false) [] [] (-1) := ⟨List.nodup_nil, by simp, List.nodup_nil, by simp, .inl rfl⟩
theorem nodup_snoc {xs : List Int} {a : Int} (h : xs.Nodup) (ha : a ∉ xs) : (xs ++ [a]).Nodup := by
  rw [List.nodup_append]
  exact ⟨h, by simp, fun b hb c hc => by simp at hc; subst hc; intro e; subst e; exact ha hb⟩
variable {f : Nat → Bool} {pd ss : List Int} {pl : Int}
theorem Onc.putP (h : Onc f pd ss pl) {k : Nat} (hk : k < 8) (hp : hasB (k : Int) pd = false) : Onc (upd f k true) pd ss pl ∧ inP (upd f k true) pd = upd (inP f pd) k true := by
  refine ⟨⟨h.pn, fun a ha => ?_, h.sn, h.sb, h.pr⟩, ?_⟩
  · obtain ⟨j, rfl, h1, h2⟩ := h.pb a ha
    have e : j ≠ k := fun e => hasB_no hp (e ▸ ha)
    exact ⟨j, rfl, h1, by rw [upd_ne _ _ e]; exact h2⟩
  · funext i
    simp only [inP, upd]
    split <;> simp
theorem Onc.takeP (h : Onc f pd ss pl) {k : Nat} (hf : f k = true) : Onc (upd f k false) pd ss pl ∧ inP (upd f k false) pd = upd (inP f pd) k false ∧ inP f pd k = true := by
  have hp : hasB (k : Int) pd = false := by
    rcases hb : hasB (k : Int) pd with _ | _
    · rfl
    · obtain ⟨j, h1, _, h2⟩ := h.pb k (by simpa [hasB] using hb)
      have : j = k := by omega
      subst this
      rw [hf] at h2; cases h2
  refine ⟨⟨h.pn, fun a ha => ?_, h.sn, h.sb, h.pr⟩, ?_, by simp [inP, hf]⟩
  · obtain ⟨j, rfl, h1, h2⟩ := h.pb a ha
    have e : j ≠ k := fun e => hasB_no hp (e ▸ ha)
    exact ⟨j, rfl, h1, by rw [upd_ne _ _ e]; exact h2⟩
  · funext i
    simp only [inP, upd]
    split
    · rename_i e; subst e; rw [hp]; rfl
    · rfl
theorem Onc.pend (h : Onc f pd ss pl) {k : Nat} (hk : k < 8) (hf : f k = false) (hp : hasB (k : Int) pd = false) : Onc f (pd ++ [(k : Int)]) ss pl ∧ inP f (pd ++ [(k : Int)]) = upd (inP f pd) k true := by
  refine ⟨⟨nodup_snoc h.pn (hasB_no hp), fun a ha => ?_, h.sn, h.sb, h.pr⟩, ?_⟩
  · rcases List.mem_append.1 ha with ha | ha
    · exact h.pb a ha
    · simp at ha; subst ha; exact ⟨k, rfl, hk, hf⟩
  · funext i
    simp only [inP, upd, hasB_snoc]
    split
    · rename_i e; subst e; simp
    · rename_i e
      have : ((k : Int) == (i : Int)) = false := by simp; omega
      rw [this, Bool.or_false]
theorem Onc.takePend {m : Int} (h : Onc f (m :: pd) ss pl) : ∃ k : Nat, m = k ∧ k < 8 ∧ Onc f pd ss pl ∧ inP f pd = upd (inP f (m :: pd)) k false ∧ inP f (m :: pd) k = true := by
  obtain ⟨k, rfl, h1, h2⟩ := h.pb m (by simp)
  have hn := List.nodup_cons.1 h.pn
  refine ⟨k, rfl, h1, ⟨hn.2, fun a ha => h.pb a (by simp [ha]), h.sn, h.sb, h.pr⟩, ?_, by simp [inP, hasB]⟩
  funext i
  simp only [inP, upd, hasB_cons]
  split
  · rename_i e; subst e
    rw [h2]; simpa [hasB] using hn.1
  · rename_i e
    rw [decide_eq_false (by omega)]; rfl
theorem Onc.first (h : Onc f pd ss (-1)) {k : Nat} (hk : k < 8) (hs : hasB (k : Int) ss = false) : Onc f pd ss k ∧ inM ss (k : Int) = upd (inM ss (-1)) k true := by
  refine ⟨⟨h.pn, h.pb, h.sn, fun a ha => ?_, .inr ⟨k, rfl, hk⟩⟩, ?_⟩
  · obtain ⟨j, rfl, h1, _⟩ := h.sb a ha
    exact ⟨j, rfl, h1, fun e => hasB_no hs (e ▸ ha)⟩
  · funext i
    simp only [inM, upd]
    split
    · rename_i e; subst e; simp
    · rename_i e
      rw [decide_eq_false (by omega), decide_eq_false (by omega)]
theorem Onc.more (h : Onc f pd ss pl) {k : Nat} (hk : k < 8) (hs : hasB (k : Int) ss = false) (hpl : (k : Int) ≠ pl) : Onc f pd (ss ++ [(k : Int)]) pl ∧ inM (ss ++ [(k : Int)]) pl = upd (inM ss pl) k true := by
  refine ⟨⟨h.pn, h.pb, nodup_snoc h.sn (hasB_no hs), fun a ha => ?_, h.pr⟩, ?_⟩
  · rcases List.mem_append.1 ha with ha | ha
    · exact h.sb a ha
    · simp at ha; subst ha; exact ⟨k, rfl, hk, hpl⟩
  · funext i
    simp only [inM, upd, hasB_snoc]
    split
    · rename_i e; subst e; simp
    · rename_i e
      have : ((k : Int) == (i : Int)) = false := by simp; omega
      rw [this, Bool.or_false]
theorem Onc.takeM {m : Int} (h : Onc f pd (ss ++ [m]) pl) : ∃ k : Nat, m = k ∧ k < 8 ∧ Onc f pd ss pl ∧ inM ss pl = upd (inM (ss ++ [m]) pl) k false ∧ inM (ss ++ [m]) pl k = true := by
  obtain ⟨k, rfl, h1, h2⟩ := h.sb m (by simp)
  have hn := List.nodup_append.1 h.sn
  refine ⟨k, rfl, h1, ⟨h.pn, h.pb, hn.1, fun a ha => h.sb a (by simp [ha]), h.pr⟩, ?_, by simp [inM, hasB]⟩
  funext i
  simp only [inM, upd, hasB_snoc]
  split
  · rename_i e; subst e
    have : hasB (i : Int) ss = false := by
      simp only [hasB, decide_eq_false_iff_not]
      exact fun hm => hn.2.2 _ hm _ (by simp) rfl
    rw [this, decide_eq_false (Ne.symm h2)]; rfl
  · rename_i e
    have : ((k : Int) == (i : Int)) = false := by simp; omega
    rw [this, Bool.or_false]
theorem Onc.takePoll (h : Onc f pd [] pl) (hp : pl ≠ -1) : ∃ k : Nat, pl = k ∧ k < 8 ∧ Onc f pd [] (-1) ∧ inM [] (-1) = upd (inM [] pl) k false ∧ inM [] pl k = true := by
  rcases h.pr with e | ⟨k, rfl, h1⟩
  · exact absurd e hp
  · refine ⟨k, rfl, h1, ⟨h.pn, h.pb, h.sn, by simp, .inl rfl⟩, ?_, by simp [inM]⟩
    funext i
    simp only [inM, upd]
    split
    · rename_i e; subst e
      rw [decide_eq_false (by omega)]; rfl
    · rename_i e
      rw [decide_eq_false (by omega), decide_eq_false (by omega)]
theorem card_hasB : ∀ {xs : List Int}, xs.Nodup → (∀ a ∈ xs, ∃ k : Nat, a = k ∧ k < 8) → card (fun i => hasB (i : Int) xs) 8 = xs.length
  | [], _, _ => card_none fun i _ => hasB_nil _
  | x :: xs, hn, hb => by
    obtain ⟨k, rfl, hk⟩ := hb x (by simp)
    have hn' := List.nodup_cons.1 hn
    have ih := card_hasB hn'.2 fun a ha => hb a (by simp [ha])
    have e : (fun i : Nat => hasB (i : Int) ((k : Int) :: xs)) = upd (fun i : Nat => hasB (i : Int) xs) k true := by
      funext i
      simp only [upd, hasB_cons]
      split
      · rename_i e; subst e; simp
      · rw [decide_eq_false (by omega)]; rfl
    rw [e, card_put _ hk (by simpa [hasB] using hn'.1), ih]; rfl
theorem card_or (f g : Nat → Bool) : ∀ {n}, (∀ i, i < n → ¬ (f i = true ∧ g i = true)) → card (fun i => f i || g i) n = card f n + card g n
  | 0, _ => rfl
  | n + 1, h => by
    have ih := card_or f g (n := n) fun i hi => h i (by omega)
    have hn := h n (by omega)
    simp only [card]
    rw [ih]
    by_cases hf : f n = true
    · have hg : ¬ g n = true := fun e => hn ⟨hf, e⟩
      simp [hf, hg]; omega
    · by_cases hg : g n = true
      · simp [hf, hg]; omega
      · simp [hf, hg]
theorem Onc.cardP (h : Onc f pd ss pl) : card (inP f pd) 8 = card f 8 + pd.length := by
  rw [← card_hasB h.pn fun a ha => by obtain ⟨k, h1, h2, _⟩ := h.pb a ha; exact ⟨k, h1, h2⟩]
  refine card_or f _ fun i hi ⟨h1, h2⟩ => ?_
  obtain ⟨k, h3, _, h4⟩ := h.pb i (by simpa [hasB] using h2)
  have : k = i := by omega
  subst this
  rw [h1] at h4; cases h4
theorem Onc.cardM (h : Onc f pd ss pl) : card (inM ss pl) 8 = ss.length + if pl = -1 then 0 else 1 := by
  rw [← card_hasB h.sn fun a ha => by obtain ⟨k, h1, h2, _⟩ := h.sb a ha; exact ⟨k, h1, h2⟩]
  have e : card (fun i : Nat => decide (pl = (i : Int))) 8 = if pl = -1 then 0 else 1 := by
    rcases h.pr with rfl | ⟨k, rfl, hk⟩
    · rw [if_pos rfl]; exact card_none fun i _ => decide_eq_false (by omega)
    · rw [if_neg (by omega)]
      have e : (fun i : Nat => decide ((k : Int) = (i : Int))) = upd (fun _ => false) k true := by
        funext i; simp only [upd]; split
        · rename_i e; subst e; simp
        · exact decide_eq_false (by omega)
      rw [e, card_put _ hk rfl, card_none fun _ _ => rfl]
  rw [← e]
  refine card_or _ _ fun i hi ⟨h1, h2⟩ => ?_
  obtain ⟨k, h3, _, h4⟩ := h.sb i (by simpa [hasB] using h1)
  exact h4 (by simpa using (of_decide_eq_true h2).symm)

/-- A truth as a number. -/
def oneB (b : Bool) : Int := if b then 1 else 0
theorem oneB_true : oneB true = 1 := rfl
theorem oneB_false : oneB false = 0 := rfl
/-- Block b is an array of 8 that counts. -/
structure Arr (w : World) (b : Nat) (F : Nat → Bool) : Prop where
  h : ∃ cur : Array Value, w.heap[b]? = some (.cells cur 53 (0, 0)) ∧ cur.size = 8 ∧ ∀ i, i < 8 → cur[i]? = some (.int .i64 (oneB (F i)))
namespace Arr
variable {w : World} {b : Nat} {F : Nat → Bool}
theorem cell (h : Arr w b F) {i : Nat} (hi : i < 8) : w.cell? ⟨b, i, none⟩ = some (.int .i64 (oneB (F i))) := by
  obtain ⟨cur, h1, h2, h3⟩ := h.h
  simp only [World.cell?, h1]
  simpa using h3 i hi
theorem fz (h : Arr w b F) (i : Nat) : w.frozen? ⟨b, i, none⟩ = false := by
  obtain ⟨cur, h1, h2, h3⟩ := h.h
  simp [World.frozen?, h1]
theorem lt (h : Arr w b F) : b < w.heap.size := by
  obtain ⟨cur, h1, h2, h3⟩ := h.h
  rw [Array.getElem?_eq_some_iff] at h1; exact h1.1
theorem kept (h : Arr w b F) {w' : World} (e : w'.heap[b]? = w.heap[b]?) : Arr w' b F := by
  obtain ⟨cur, h1, h2, h3⟩ := h.h
  exact ⟨cur, e.trans h1, h2, h3⟩
theorem set (h : Arr w b F) {i : Nat} (hi : i < 8) (v : Bool) (z : Int) (hz : z = oneB v) : Arr (w.setCell ⟨b, i, none⟩ (.int .i64 z)) b (upd F i v) ∧ Only b b w (w.setCell ⟨b, i, none⟩ (.int .i64 z)) := by
  obtain ⟨cur, h1, h2, h3⟩ := h.h
  subst hz
  refine ⟨⟨cur.setIfInBounds i (.int .i64 (oneB v)), by simp [World.setCell, Array.getElem?_modify, h1], by simpa using h2, fun j hj => ?_⟩, ⟨rfl, rfl, rfl, by simp [World.setCell], fun k _ h1 _ => Below.heap_setCell _ _ _ _ h1⟩⟩
  rw [Array.getElem?_setIfInBounds]
  by_cases e : i = j
  · subst e; rw [if_pos rfl, if_pos (by omega), upd_same]
  · rw [if_neg e, upd_ne _ _ (Ne.symm e)]; exact h3 j hj
theorem other (h : Arr w b F) {c : Nat} {w' : World} (ho : Only c c w w') (hn : b ≠ c) : Arr w' b F := h.kept (ho.block _ h.lt hn hn)
end Arr
end Go.Proofs.YtcbdmofdbmimfaaDoor
