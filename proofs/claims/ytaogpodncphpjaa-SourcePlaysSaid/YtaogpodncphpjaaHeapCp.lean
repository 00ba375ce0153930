/- heap.Heap.Copy as a contract. -/
import Derived.Test.YtaogpodncphpjaaHeapC
import Derived.Test.YtaogpodncphpjaaPre1
namespace Go.Proofs.Ytaogpodncphpjaa
set_option linter.unusedVariables false
set_option linter.unusedSimpArgs false
open Go.RowKit

def CpPost (es : List (Int × Int × Int)) (w : World) (e : Ending) (w' : World) : Prop :=
  ∃ q v', e = .returned (.pointer (some ⟨q, 0, none⟩)) ∧ w.heap.size ≤ q ∧ Hp w' w.heap.size q v' es ∧ Below w.heap.size w w'
set_option maxHeartbeats 4000000 in
theorem hcopy (w : World) (base p : Nat) (v : Value) (es : List (Int × Int × Int)) (h : Hp w base p v es) :
    Calls Try.prog 64 #[.pointer (some ⟨p, 0, none⟩)] w (CpPost es w) := by
  have LI := hid (hlist w base p v es h)
  have HL := hid h.len
  clear h
  go_enter Try.func64, Try.ntmps64
  go_wp2_with fail
  refine (LI.out).mono ?_
  rintro e w1 ⟨v1, rfl, ho, hb⟩
  have OW := hid ho
  have HB := hid hb
  obtain ⟨a1, c1, rfl⟩ : ∃ a c, v1 = .slice a es.length c := by
    obtain ⟨_, ⟨h1, h2⟩ | ⟨_, _, _, h1, _⟩⟩ := ho
    · exact ⟨none, 0, by rw [h1, h2]⟩
    · exact ⟨_, _, h1⟩
  clear ho hb LI
  go_wp2
  go_ret
  refine ⟨w1.heap.size, _, rfl, HB.out.size, ⟨Deep.blk_alloc_new _ _, OW.out.alloc _, fun e => ?_, HL.out⟩, HB.out.alloc HB.out.size _⟩
  obtain ⟨_, ⟨h1, h2⟩ | ⟨q, cap, cur, h1, h2, h3, _⟩⟩ := OW.out
  · rw [h1] at e; cases e
  · rw [h1] at e
    cases e
    obtain ⟨hl, _⟩ := Array.getElem?_eq_some_iff.1 h3
    exact absurd hl (Nat.lt_irrefl _)
end Go.Proofs.Ytaogpodncphpjaa
