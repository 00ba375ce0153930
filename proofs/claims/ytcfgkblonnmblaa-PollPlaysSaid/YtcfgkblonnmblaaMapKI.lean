/- Maps with integer keys: an entry that is asked for, and its store. Of no program of its own. -/
import Derived.Test.YtcfgkblonnmblaaMaps
import Derived.Test.YtcfgkblonnmblaaMapK
namespace Go.Proofs.Ytcfgkblonnmblaa
set_option linter.unusedVariables false
set_option linter.unusedSimpArgs false
open Go.RowKit Go.MapKept

abbrev encI (q : IntKind) : Int → Value := fun a => .int q a
theorem keyI {P : Program} {kt : TypeId} {q : IntKind} (hd : P.underlying kt = some (.int q)) : KeyT P kt Int (encI q) where
  inj := fun a b h => by simp only [encI, Value.int.injEq] at h; exact h.2
  chk := fun e w a => run_checkKey (P := P) (w := w) hd (MapI.isKey q a) e 9999
  fnd := fun w a l hl => by
    have h3 : ∀ x ∈ l, IsKey (.int q) x.key := fun x hx => by obtain ⟨c, hc⟩ := hl x hx; rw [hc]; exact MapI.isKey q c
    rcases findNow_spec (MapI.isKey q a) l 0 h3 with ⟨e1, e2⟩ | ⟨j, e, e1, e2, e3⟩
    · exact .inl ⟨run_findKey hd e1, e2⟩
    · exact .inr ⟨j, e, by have := run_findKey (P := P) (w := w) hd e1; simpa using this, by simpa using e2, e3⟩
  stay := fun a w => run_keyThatStays (MapI.isKey q a)
theorem isKey_int {q : IntKind} {k : Value} (h : IsKey (.int q) k) : ∃ a, k = .int q a := by
  cases k <;> simp [IsKey] at h ⊢
  exact h
namespace MapI
variable {w : World} {b : Nat} {q : IntKind} {g : Int → Option Value} {n : Nat} {P : Program} {t kt et : TypeId}
theorem toK (h : MapI w b q g n) : MapK w b (encI q) g n := by
  obtain ⟨es, clock, h1, h2, h3, h4, h5⟩ := h.h
  exact ⟨es, clock, h1, h2, fun x hx => isKey_int (h3 x hx), h4, h5⟩
theorem ofK (h : MapK w b (encI q) g n) : MapI w b q g n := by
  obtain ⟨es, clock, h1, h2, h3, h4, h5⟩ := h.h
  exact ⟨es, clock, h1, h2, fun x hx => by obtain ⟨c, hc⟩ := h3 x hx; rw [hc]; exact MapI.isKey q c, h4, h5⟩
theorem updK_is (g : Int → Option Value) (a : Int) (v : Option Value) : updK g a v = updG g a v := rfl
/-- An entry that is asked for, and then stored into: the map has it. -/
theorem put2 (h : MapI w b q g n) (hm : P.underlying t = some (.map kt et)) (hd : P.underlying kt = some (.int q)) {z : Value} (hz : ∀ w, (zeroValue et).run P w = .ok z w) (a : Int) (v : Value) :
    ∃ w1 s w2, (Instr.mapEntry t (.map (some b)) (.int q a)).run P w = .ok (.tuple #[(g a).getD z, .int .i64 (s : Nat)]) w1 ∧ Only b b w w1 ∧
      (Instr.entryStore t (.map (some b)) (.int .i64 (s : Nat)) v).run P w1 = .ok () w2 ∧ MapI w2 b q (updG g a (some v)) (if g a = none then n + 1 else n) ∧ Only b b w1 w2 := by
  obtain ⟨w1, s, r1, m1, o1⟩ := h.toK.entry (keyI hd) hm hz a
  obtain ⟨w2, r2, m2, o2⟩ := m1.put (P := P) (t := t) (kt := kt) (keyI hd) v
  rw [updK_updK, updK_is] at m2
  exact ⟨w1, s, w2, r1, o1, r2, ofK m2, o2⟩
end MapI
end Go.Proofs.Ytcfgkblonnmblaa
