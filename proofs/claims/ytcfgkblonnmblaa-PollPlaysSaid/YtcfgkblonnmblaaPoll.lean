/- poll.Poll: who waits, what is ready; what its look-ups answer. -/
import Derived.Test.YtcfgkblonnmblaaRngI
import Derived.Test.YtcfgkblonnmblaaMapKI
import Derived.Test.YtcfgkblonnmblaaFrZ
namespace Go.Proofs.Ytcfgkblonnmblaa
set_option linter.unusedVariables false
set_option linter.unusedSimpArgs false
open Go.RowKit

/-- The poll at block p: W: who waits for what (descriptor, goroutine); R: what is ready; Z: foreign blocks. -/
structure Pq (Z : Nat → Prop) (w : World) (p b1 b2 b3 : Nat) (W : List (Int × Int)) (R : List Int) : Prop where
  box : w.heap[p]? = some (.cells #[.map (some b1), .map (some b2), .map (some b3)] 57 (0, 0))
  m1 : ∃ g, MapI w b1 .u16 g W.length ∧ ∀ a v, g a = some v ↔ ∃ y, (a, y) ∈ W ∧ v = .int .i64 y
  m2 : ∃ g, MapI w b2 .i64 g W.length ∧ ∀ a v, g a = some v ↔ ∃ x, (x, a) ∈ W ∧ v = .int .u16 x
  m3 : ∃ g, MapI w b3 .u16 g R.length ∧ ∀ a, g a = if a ∈ R then some (.bool true) else none
  n1 : (W.map Prod.fst).Nodup
  n2 : (W.map Prod.snd).Nodup
  n3 : R.Nodup
  ne : p ≠ b1 ∧ p ≠ b2 ∧ p ≠ b3 ∧ b1 ≠ b2 ∧ b1 ≠ b3 ∧ b2 ≠ b3
  zf : ¬ Z p ∧ ¬ Z b1 ∧ ¬ Z b2 ∧ ¬ Z b3
def waitsF (W : List (Int × Int)) (fd : Int) : Bool := decide (fd ∈ W.map Prod.fst)
def waitsG (W : List (Int × Int)) (g : Int) : Bool := decide (g ∈ W.map Prod.snd)
/-- How many are known. -/
def plen (W : List (Int × Int)) (R : List Int) : Nat := W.length + (R.filter fun a => !waitsF W a).length
section
variable {Z : Nat → Prop} {w w' : World} {p b1 b2 b3 : Nat} {W : List (Int × Int)} {R : List Int}
theorem und1 : Try.prog.underlying 53 = some (.map 23 3) := by kernel_rfl
theorem und2 : Try.prog.underlying 54 = some (.map 3 23) := by kernel_rfl
theorem und3 : Try.prog.underlying 55 = some (.map 23 4) := by kernel_rfl
theorem undF : Try.prog.underlying 23 = some (.int .u16) := by kernel_rfl
theorem undG : Try.prog.underlying 3 = some (.int .i64) := by kernel_rfl
theorem zero1 (w : World) : (zeroValue 3).run Try.prog w = .ok (.int .i64 0) w := by kernel_rfl
theorem zero2 (w : World) : (zeroValue 23).run Try.prog w = .ok (.int .u16 0) w := by kernel_rfl
theorem zero3 (w : World) : (zeroValue 4).run Try.prog w = .ok (.bool false) w := by kernel_rfl
theorem Pq.lt (h : Pq Z w p b1 b2 b3 W R) : p < w.heap.size ∧ b1 < w.heap.size ∧ b2 < w.heap.size ∧ b3 < w.heap.size := by
  obtain ⟨g1, q1, _⟩ := h.m1
  obtain ⟨g2, q2, _⟩ := h.m2
  obtain ⟨g3, q3, _⟩ := h.m3
  exact ⟨(Array.getElem?_eq_some_iff.1 h.box).1, q1.lt, q2.lt, q3.lt⟩
theorem Pq.kept (h : Pq Z w p b1 b2 b3 W R) (e0 : w'.heap[p]? = w.heap[p]?) (e1 : w'.heap[b1]? = w.heap[b1]?) (e2 : w'.heap[b2]? = w.heap[b2]?) (e3 : w'.heap[b3]? = w.heap[b3]?) : Pq Z w' p b1 b2 b3 W R := by
  obtain ⟨g1, q1, r1⟩ := h.m1
  obtain ⟨g2, q2, r2⟩ := h.m2
  obtain ⟨g3, q3, r3⟩ := h.m3
  exact ⟨e0.trans h.box, ⟨g1, q1.kept e1, r1⟩, ⟨g2, q2.kept e2, r2⟩, ⟨g3, q3.kept e3, r3⟩, h.n1, h.n2, h.n3, h.ne, h.zf⟩
theorem Pq.below (h : Pq Z w p b1 b2 b3 W R) (hb : Below w.heap.size w w') : Pq Z w' p b1 b2 b3 W R :=
  h.kept (hb.block _ h.lt.1) (hb.block _ h.lt.2.1) (hb.block _ h.lt.2.2.1) (hb.block _ h.lt.2.2.2)
theorem pair_snd {l : List (Int × Int)} (hn : (l.map Prod.fst).Nodup) {a y z : Int} (h1 : (a, y) ∈ l) (h2 : (a, z) ∈ l) : y = z := by
  induction l with
  | nil => cases h1
  | cons c l ih =>
    simp only [List.map_cons, List.nodup_cons] at hn
    rcases List.mem_cons.1 h1 with e1 | h1
    · rcases List.mem_cons.1 h2 with e2 | h2
      · rw [← e1] at e2; injection e2 with _ e2; exact e2.symm
      · exact absurd (List.mem_map.2 ⟨_, h2, by rw [← e1]⟩) hn.1
    · rcases List.mem_cons.1 h2 with e2 | h2
      · exact absurd (List.mem_map.2 ⟨_, h1, by rw [← e2]⟩) hn.1
      · exact ih hn.2 h1 h2
theorem waitsF_mem {a : Int} (h : waitsF W a = true) : ∃ y, (a, y) ∈ W := by
  obtain ⟨e, he, rfl⟩ := List.mem_map.1 (of_decide_eq_true h)
  exact ⟨e.2, he⟩
/-- 'g, waits := p.who[fd]' of somebody. -/
theorem Pq.who_yes (h : Pq Z w p b1 b2 b3 W R) {a y : Int} (hw : (a, y) ∈ W) (ok : Bool) : (Instr.lookup 53 (.map (some b1)) (.int .u16 a) ok).run Try.prog w = .ok (if ok then .tuple #[.int .i64 y, .bool true] else .int .i64 y) w := by
  obtain ⟨g, q, r⟩ := h.m1
  exact q.look_hit und1 undF ((r a _).2 ⟨y, hw, rfl⟩) ok
theorem Pq.who_no (h : Pq Z w p b1 b2 b3 W R) {a : Int} (hw : waitsF W a = false) (ok : Bool) : (Instr.lookup 53 (.map (some b1)) (.int .u16 a) ok).run Try.prog w = .ok (if ok then .tuple #[.int .i64 0, .bool false] else .int .i64 0) w := by
  obtain ⟨g, q, r⟩ := h.m1
  refine q.look_miss und1 undF zero1 ?_ ok
  rcases hg : g a with _ | v
  · rfl
  · obtain ⟨y, hy, _⟩ := (r a v).1 hg
    exact absurd (List.mem_map.2 ⟨_, hy, rfl⟩) (of_decide_eq_false hw)
theorem Pq.which_yes (h : Pq Z w p b1 b2 b3 W R) {a x : Int} (hw : (x, a) ∈ W) (ok : Bool) : (Instr.lookup 54 (.map (some b2)) (.int .i64 a) ok).run Try.prog w = .ok (if ok then .tuple #[.int .u16 x, .bool true] else .int .u16 x) w := by
  obtain ⟨g, q, r⟩ := h.m2
  exact q.look_hit und2 undG ((r a _).2 ⟨x, hw, rfl⟩) ok
theorem Pq.which_no (h : Pq Z w p b1 b2 b3 W R) {a : Int} (hw : waitsG W a = false) (ok : Bool) : (Instr.lookup 54 (.map (some b2)) (.int .i64 a) ok).run Try.prog w = .ok (if ok then .tuple #[.int .u16 0, .bool false] else .int .u16 0) w := by
  obtain ⟨g, q, r⟩ := h.m2
  refine q.look_miss und2 undG zero2 ?_ ok
  rcases hg : g a with _ | v
  · rfl
  · obtain ⟨y, hy, _⟩ := (r a v).1 hg
    exact absurd (List.mem_map.2 ⟨_, hy, rfl⟩) (of_decide_eq_false hw)
theorem Pq.rdy (h : Pq Z w p b1 b2 b3 W R) (a : Int) (r : Bool) (hr : decide (a ∈ R) = r) : (Instr.lookup 55 (.map (some b3)) (.int .u16 a) false).run Try.prog w = .ok (.bool r) w := by
  obtain ⟨g, q, s⟩ := h.m3
  by_cases ha : a ∈ R
  · obtain rfl : r = true := by rw [← hr]; exact decide_eq_true ha
    exact q.look_hit und3 undF (by rw [s, if_pos ha]) false
  · obtain rfl : r = false := by rw [← hr]; exact decide_eq_false ha
    exact q.look_miss und3 undF zero3 (by rw [s, if_neg ha]) false
set_option maxHeartbeats 4000000 in
theorem phas (h : Pq Z w p b1 b2 b3 W R) (a : Int) : Calls Try.prog 16 #[.pointer (some ⟨p, 0, none⟩), .int .i64 a] w fun e w' => e = .returned (.bool (waitsG W a)) ∧ w' = w := by
  have c1 : w.cell? ⟨p, 1, none⟩ = some (.map (some b2)) := cellx h.box rfl
  rcases hg : waitsG W a with _ | _
  · have L := h.which_no hg true
    clear h
    go_enter Try.func16, Try.ntmps16
    go_wp2
    go_ret
    exact ⟨rfl, rfl⟩
  · obtain ⟨e, he, h2⟩ := List.mem_map.1 (of_decide_eq_true hg)
    obtain ⟨x, y⟩ := e
    simp only at h2
    subst h2
    have L := h.which_yes he true
    clear h he
    go_enter Try.func16, Try.ntmps16
    go_wp2
    go_ret
    exact ⟨rfl, rfl⟩
/-- How many of the ready ones that were looked at nobody waits for. -/
def cntR (W : List (Int × Int)) (R : List Int) (left : Int → Bool) : Nat := (R.filter fun a => !left a && !waitsF W a).length
theorem filt_step {α : Type} {f f' : α → Bool} {a : α} : ∀ {R : List α}, R.Nodup → a ∈ R → f a = false → f' a = true → (∀ x, x ∈ R → x ≠ a → f' x = f x) → (R.filter f').length = (R.filter f).length + 1
  | [], _, h, _, _, _ => by cases h
  | c :: R, hn, h, h1, h2, h3 => by
    obtain ⟨n1, n2⟩ := List.nodup_cons.1 hn
    rcases List.mem_cons.1 h with e | h
    · subst e
      rw [List.filter_cons, List.filter_cons, h1, h2]
      have : R.filter f' = R.filter f := List.filter_congr fun x hx => h3 x (List.mem_cons_of_mem _ hx) (fun e => n1 (e ▸ hx))
      simp [this]
    · have hca : c ≠ a := fun e => n1 (e ▸ h)
      have ih := filt_step n2 h h1 h2 (fun x hx => h3 x (List.mem_cons_of_mem _ hx))
      rw [List.filter_cons, List.filter_cons, h3 c List.mem_cons_self hca]
      split <;> simp [ih]
theorem filt_same {f f' : Int → Bool} {R : List Int} (h : ∀ x ∈ R, f' x = f x) : (R.filter f').length = (R.filter f).length := by rw [List.filter_congr h]
end
end Go.Proofs.Ytcfgkblonnmblaa
