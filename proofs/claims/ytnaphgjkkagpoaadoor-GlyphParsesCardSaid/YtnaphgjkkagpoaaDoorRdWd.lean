/- What is read of a word that is an event's: each part again. -/
import Derived.Test.YtnaphgjkkagpoaaDoorGlyM
import Derived.Lib.DecodeN
namespace Go.Proofs.YtnaphgjkkagpoaaDoor
set_option linter.unusedVariables false
set_option linter.unusedSimpArgs false
set_option maxRecDepth 20000
open Go.RowKit

theorem tw_app {P : UInt8 → Bool} : ∀ {a r : List UInt8}, (∀ c ∈ a, P c = true) → (∀ c, r.head? = some c → P c = false) → (a ++ r).takeWhile P = a ∧ (a ++ r).dropWhile P = r
  | [], [], _, _ => ⟨rfl, rfl⟩
  | [], c :: r, _, h => by
    have := h c rfl
    simp [this]
  | c :: a, r, h1, h2 => by
    obtain ⟨e1, e2⟩ := tw_app (a := a) (r := r) (fun x hx => h1 x (by simp [hx])) h2
    have hc := h1 c (by simp)
    rw [List.cons_append, List.takeWhile_cons_of_pos hc, List.dropWhile_cons_of_pos hc, e1, e2]
    exact ⟨rfl, rfl⟩
theorem isD_dig {c : UInt8} (h : Gw.Dig c) : isD c = true := by
  unfold Gw.Dig at h
  simp [isD, h.1, h.2]
theorem isD_not {c : UInt8} (h : ¬ Gw.Dig c) : isD c = false := by
  unfold Gw.Dig at h
  cases e : isD c
  · rfl
  · simp [isD] at e
    exact absurd e h
/-- A part behind a mark, as it is read. -/
def Part (ch : UInt8) (l : List UInt8) (n : Int) (l' : List UInt8) : Prop :=
  (Lib.hasPrefix l [ch] = true ∧ NumL ((l.drop 1).takeWhile isD) n ∧ l' = (l.drop 1).dropWhile isD) ∨ (Lib.hasPrefix l [ch] = false ∧ n = -1 ∧ l' = l)
def VPart (l : List UInt8) (v : Int) : Prop :=
  (Lib.hasPrefix l [61] = true ∧ ∀ u : Int, -9223372036854775808 ≤ u → u ≤ 9223372036854775807 → l.drop 1 = Lib.itoa u → v = u) ∨ (Lib.hasPrefix l [61] = false ∧ v = 0)
/-- What is read behind the rune. -/
def Loose (l : List UInt8) (g m p v : Int) : Prop :=
  NumL (l.takeWhile isD) g ∧ ∃ l4, Part 109 (l.dropWhile isD) m l4 ∧ ∃ l6, Part 112 l4 p l6 ∧ VPart l6 v
theorem has_cons (c d : UInt8) (r : List UInt8) : Lib.hasPrefix (c :: r) [d] = (d == c) := by simp [Lib.hasPrefix, List.isPrefixOf]
theorem has_nil (d : UInt8) : Lib.hasPrefix [] [d] = false := rfl
theorem has_not {l : List UInt8} {d : UInt8} (h : ∀ c, l.head? = some c → c ≠ d) : Lib.hasPrefix l [d] = false := by
  cases l with
  | nil => rfl
  | cons c r =>
    rw [has_cons]
    have := h c rfl
    simpa using fun e : d = c => this e.symm
theorem num_itoa {g n : Int} {r : List UInt8} (hg : 0 ≤ g) (hg2 : g ≤ 9223372036854775807) (hr : ∀ c, r.head? = some c → ¬ Gw.Dig c) (h : NumL ((Lib.itoa g ++ r).takeWhile isD) n) : n = g ∧ (Lib.itoa g ++ r).dropWhile isD = r := by
  obtain ⟨e1, e2⟩ := tw_app (P := isD) (a := Lib.itoa g) (r := r) (fun c hc => isD_dig (Gw.itoa_dig hg c hc)) (fun c hc => isD_not (hr c hc))
  rw [e1] at h
  refine ⟨?_, e2⟩
  rw [h.2 g.toNat (by omega) (Gw.itoa_pos hg)]
  omega
theorem vpart_ok {v v' : Int} (h0 : -9223372036854775808 ≤ v) (h1 : v ≤ 9223372036854775807) (h : VPart (Gw.ov v) v') : v' = v := by
  unfold Gw.ov at h
  by_cases hv : v = 0
  · rw [if_pos hv] at h
    rcases h with ⟨h, _⟩ | ⟨_, h⟩
    · simp [has_nil] at h
    · omega
  · rw [if_neg hv] at h
    rcases h with ⟨_, h⟩ | ⟨h, _⟩
    · exact h v h0 h1 rfl
    · rw [has_cons] at h; simp at h
theorem ppart_ok {p p' v : Int} {l' : List UInt8} (hp : -1 ≤ p) (hp2 : p ≤ 9223372036854775807) (h : Part 112 (Gw.op p ++ Gw.ov v) p' l') : p' = p ∧ l' = Gw.ov v := by
  unfold Gw.op at h
  by_cases hv : p = -1
  · rw [if_pos hv, List.nil_append] at h
    rcases h with ⟨h, _⟩ | ⟨_, h, h2⟩
    · rw [has_not (fun c hc => by rw [Gw.ov_head c hc]; decide)] at h; cases h
    · exact ⟨by omega, h2⟩
  · rw [if_neg hv, List.cons_append] at h
    rcases h with ⟨_, h, h2⟩ | ⟨h, _⟩
    · obtain ⟨e1, e2⟩ := num_itoa (by omega) hp2 (fun c hc => by rw [Gw.ov_head c hc]; exact Gw.nd61) h
      exact ⟨e1, h2.trans e2⟩
    · rw [has_cons] at h; simp at h
theorem mpart_ok {m m' p v : Int} {l' : List UInt8} (hm : -1 ≤ m) (hm2 : m ≤ 9223372036854775807) (h : Part 109 (Gw.om m ++ (Gw.op p ++ Gw.ov v)) m' l') : m' = m ∧ l' = Gw.op p ++ Gw.ov v := by
  unfold Gw.om at h
  by_cases hv : m = -1
  · rw [if_pos hv, List.nil_append] at h
    rcases h with ⟨h, _⟩ | ⟨_, h, h2⟩
    · rw [has_not (fun c hc => by rcases Gw.opv_head c hc with rfl | rfl <;> decide)] at h; cases h
    · exact ⟨by omega, h2⟩
  · rw [if_neg hv, List.cons_append] at h
    rcases h with ⟨_, h, h2⟩ | ⟨h, _⟩
    · obtain ⟨e1, e2⟩ := num_itoa (by omega) hm2 Gw.opv_nd h
      exact ⟨e1, h2.trans e2⟩
    · rw [has_cons] at h; simp at h
theorem loose_ok {g m p v g' m' p' v' : Int} (hg : 0 ≤ g ∧ g < 4096) (hm : -1 ≤ m ∧ m < 128) (hp : -1 ≤ p ∧ p < 64) (h0 : -9223372036854775808 ≤ v) (h1 : v ≤ 9223372036854775807)
    (h : Loose (Lib.itoa g ++ (Gw.om m ++ (Gw.op p ++ Gw.ov v))) g' m' p' v') : g' = g ∧ m' = m ∧ p' = p ∧ v' = v := by
  obtain ⟨h2, l4, h4, l6, h6, h8⟩ := h
  obtain ⟨e1, e2⟩ := num_itoa hg.1 (by omega) Gw.ompv_nd h2
  rw [e2] at h4
  obtain ⟨e3, rfl⟩ := mpart_ok hm.1 (by omega) h4
  obtain ⟨e4, rfl⟩ := ppart_ok hp.1 (by omega) h6
  exact ⟨e1, e3, e4, vpart_ok h0 h1 h8⟩
/-- The first rune of a word. -/
theorem dec_gl {s : ByteArray} {k : Nat} {r : List UInt8} (hk : k < 8) (h : s.data.toList = Gw.gl k ++ r) : ((Utf8.decode s 0).1 : Int) = glRune0 k ∧ (Utf8.decode s 0).2 = (Gw.gl k).length := by
  have hs : s.size = (Gw.gl k).length + r.length := by rw [Lib.size_eq, h, List.length_append]
  have hg : ∀ j, (hj : j < (Gw.gl k).length) → s.get! (0 + j) = (Gw.gl k)[j] := by
    intro j hj
    have e : s.data.toList[0 + j]? = some (Gw.gl k)[j] := by rw [h, Nat.zero_add, List.getElem?_append_left hj, List.getElem?_eq_getElem hj]
    have e2 : s.data[0 + j]? = some (Gw.gl k)[j] := by rw [← e, Array.getElem?_toList]
    show s.data[0 + j]! = _
    rw [getElem!_def, e2]
  rw [Lib.decode_at]
  rcases (show (k = 0 ∨ k = 1) ∨ (k = 2 ∨ k = 3 ∨ k = 4 ∨ k = 5 ∨ k = 6 ∨ k = 7) by omega) with (rfl | rfl) | (rfl | rfl | rfl | rfl | rfl | rfl)
  all_goals have g0 := hg 0 (by simp [Gw.gl])
  all_goals simp only [Gw.gl, List.length_cons, List.length_nil] at hs
  iterate 2
    · rw [show s.get! 0 = _ from g0]
      simp [Gw.gl, Lib.decodeN, glRune0]
  all_goals
    have g1 := hg 1 (by simp [Gw.gl])
    have g2 := hg 2 (by simp [Gw.gl])
    rw [show s.get! 0 = _ from g0, g1, g2]
    have n1 : 1 < s.size - 0 := by omega
    have n2 : 2 < s.size - 0 := by omega
    have n3 : 1 < s.size := by omega
    have n4 : 2 < s.size := by omega
    simp [Gw.gl, Lib.decodeN, glRune0, n3, n4]
end Go.Proofs.YtnaphgjkkagpoaaDoor
