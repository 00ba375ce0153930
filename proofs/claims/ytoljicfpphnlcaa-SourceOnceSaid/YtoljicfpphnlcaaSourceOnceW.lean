/- The walk of the statement SourceOnce: the law answers true and turns nothing that was there. Written by wip/tools/genso.py. -/
import Derived.Test.YtoljicfpphnlcaaLives12
import Derived.Test.YtoljicfpphnlcaaSrcP
import Derived.Test.YtoljicfpphnlcaaStructs
import Derived.Test.YtoljicfpphnlcaaMapKI
import Derived.Deep.RegionWith
import Derived.Deep.RegionHeld3
namespace Go.Proofs.Ytoljicfpphnlcaa.sourceOnce
open Go.RowKit
set_option linter.unusedVariables false
set_option linter.unusedSimpArgs false
theorem und4 : Try.prog.underlying 64 = some (.map 3 2) := by kernel_rfl
theorem zero4 (w : World) : (zeroValue 2).run Try.prog w = .ok (.int .i64 0) w := by kernel_rfl
theorem Sq.newZ {Z : Nat → Prop} {s t p b1 b2 b3 n : Nat} {now : Int} {es : Nat → List En} {L : List En} {ad : Nat} {W : List (Int × Int)} {R : List Int} {wr w6 : World} (h : Sq Z wr s t p b1 b2 b3 n now es L ad W R) (hb : Below wr.heap.size wr w6) (hs : wr.heap.size < w6.heap.size) :
    Sq (fun q => Z q ∨ q = wr.heap.size) w6 s t p b1 b2 b3 n now es L ad W R := by
  have h6 := h.below hb
  have l0 := h.lt
  obtain ⟨l1, l2, l3, l4⟩ := h.pq.lt
  obtain ⟨z0, z1, z2, z3, z4⟩ := h.zf
  refine ⟨h6.box, ((h.te.reZ (Nat.le_refl wr.heap.size)).below hb).weak ?_, h6.pq, h.now, h.whn, h.dis, ⟨?_, ?_, ?_, ?_, ?_⟩, h.ne, ?_⟩
  · rintro q ((hq | hq) | hq | hq | hq | hq | hq)
    · exact .inl (.inl hq)
    · exact .inr hq
    · exact .inl (.inr (.inl hq))
    · exact .inl (.inr (.inr (.inl hq)))
    · exact .inl (.inr (.inr (.inr (.inl hq))))
    · exact .inl (.inr (.inr (.inr (.inr (.inl hq)))))
    · exact .inl (.inr (.inr (.inr (.inr (.inr hq)))))
  · rintro (e | e)
    · exact z0 e
    · omega
  · rintro (e | e)
    · exact z1 e
    · omega
  · rintro (e | e)
    · exact z2 e
    · omega
  · rintro (e | e)
    · exact z3 e
    · omega
  · rintro (e | e)
    · exact z4 e
    · omega
  · rintro q (hq | rfl)
    · exact h6.hz q hq
    · exact hs
abbrev gs (L : List En) : List Int := L.map fun e => e.2.2
/-- The source (L', W', R'), and the law's own maps: until (L), on (W), ready (R). -/
structure Om (w : World) (Z : Nat → Prop) (s t p b1 b2 b3 ub ob rb k : Nat) (now : Int) (es : Nat → List En) (L' : List En) (ad : Nat) (W' : List (Int × Int)) (R' : List Int) (L : List En) (W : List (Int × Int)) (R : List Int) (wr : World) : Prop where
  ss : Ss w Z s t p b1 b2 b3 4 k now es L' ad W' R' wr
  ut : ∃ g, MapI wr ub .i64 g L.length ∧ ∀ a v, g a = some v ↔ ∃ e ∈ L, e.2.2 = a ∧ v = .int .i64 e.1
  ot : ∃ g, MapI wr ob .i64 g W.length ∧ ∀ a v, g a = some v ↔ ∃ x, (x, a) ∈ W ∧ v = .int .u16 x
  rt : ∃ g, MapI wr rb .u16 g R.length ∧ ∀ a, g a = if a ∈ R then some (.int .i64 1) else none
  nd : (gs L).Nodup ∧ (W.map Prod.fst).Nodup ∧ (W.map Prod.snd).Nodup ∧ R.Nodup
  nw : 0 ≤ now
  zf : Z ub ∧ Z ob ∧ Z rb
  ge : w.heap.size ≤ ub ∧ w.heap.size ≤ ob ∧ w.heap.size ≤ rb ∧ ub ≠ ob ∧ ub ≠ rb ∧ ob ≠ rb
section
variable {w : World} {Z : Nat → Prop} {s t p b1 b2 b3 ub ob rb k ad : Nat} {now : Int} {es : Nat → List En} {L' L V l : List En} {W' W : List (Int × Int)} {R' R : List Int} {wr w5 w6 : World}
theorem Om.lts (h : Om w Z s t p b1 b2 b3 ub ob rb k now es L' ad W' R' L W R wr) : ub < wr.heap.size ∧ ob < wr.heap.size ∧ rb < wr.heap.size := by
  obtain ⟨_, q1, _⟩ := h.ut
  obtain ⟨_, q2, _⟩ := h.ot
  obtain ⟨_, q3, _⟩ := h.rt
  exact ⟨q1.lt, q2.lt, q3.lt⟩
theorem Om.with {Z1 : Nat → Prop} {k1 ad1 : Nat} {now1 : Int} {es1 : Nat → List En} {L1 : List En} {W1 : List (Int × Int)} {R1 : List Int} (h : Om w Z s t p b1 b2 b3 ub ob rb k now es L' ad W' R' L W R wr) (hs : Ss w Z1 s t p b1 b2 b3 4 k1 now1 es1 L1 ad1 W1 R1 w5)
    (e1 : w5.heap[ub]? = wr.heap[ub]?) (e2 : w5.heap[ob]? = wr.heap[ob]?) (e3 : w5.heap[rb]? = wr.heap[rb]?) (hz : ∀ q, Z q → Z1 q) (hn : 0 ≤ now1) : Om w Z1 s t p b1 b2 b3 ub ob rb k1 now1 es1 L1 ad1 W1 R1 L W R w5 := by
  obtain ⟨g1, q1, s1⟩ := h.ut
  obtain ⟨g2, q2, s2⟩ := h.ot
  obtain ⟨g3, q3, s3⟩ := h.rt
  exact ⟨hs, ⟨g1, q1.kept e1, s1⟩, ⟨g2, q2.kept e2, s2⟩, ⟨g3, q3.kept e3, s3⟩, h.nd, hn, ⟨hz _ h.zf.1, hz _ h.zf.2.1, hz _ h.zf.2.2⟩, h.ge⟩
theorem Om.below (h : Om w Z s t p b1 b2 b3 ub ob rb k now es L' ad W' R' L W R wr) (hb : Below wr.heap.size wr w5) : Om w Z s t p b1 b2 b3 ub ob rb k now es L' ad W' R' L W R w5 := by
  obtain ⟨l1, l2, l3⟩ := h.lts
  exact h.with (h.ss.below hb) (hb.block _ l1) (hb.block _ l2) (hb.block _ l3) (fun _ => id) h.nw
theorem Om.more (h : Om w Z s t p b1 b2 b3 ub ob rb k now es L' ad W' R' L W R wr) : Om w Z s t p b1 b2 b3 ub ob rb (k + 1) now es L' ad W' R' L W R wr :=
  h.with h.ss.more rfl rfl rfl (fun _ => id) h.nw
theorem Om.alloc (h : Om w Z s t p b1 b2 b3 ub ob rb k now es L' ad W' R' L W R wr) (o : Obj) : Om w (fun q => Z q ∨ q = wr.heap.size) s t p b1 b2 b3 ub ob rb k now es L' ad W' R' L W R (wr.alloc o) := by
  obtain ⟨l1, l2, l3⟩ := h.lts
  have b := bl_al wr o
  have g := h.ss.below b
  exact h.with ⟨Sq.newZ h.ss.sq b (al_lt wr o), g.ln, g.bl, fun q hq => .inl (h.ss.zb q hq)⟩ (b.block _ l1) (b.block _ l2) (b.block _ l3) (fun _ => .inl) h.nw
theorem Om.step {now1 : Int} {ad1 : Nat} {es1 : Nat → List En} {L1 : List En} {W1 : List (Int × Int)} {R1 : List Int} (h : Om w Z s t p b1 b2 b3 ub ob rb k now es L' ad W' R' L W R wr) (ok : OkPost Z wr s t p b1 b2 b3 4 now1 es1 L1 ad1 W1 R1 w5) (hl : L1.length ≤ k + 1 ∧ W1.length ≤ k + 1 ∧ R1.length ≤ k + 1 ∧ ad1 ≤ k + 1) (hn : 0 ≤ now1) :
    Om w Z s t p b1 b2 b3 ub ob rb (k + 1) now1 es1 L1 ad1 W1 R1 L W R w5 := by
  obtain ⟨l1, l2, l3⟩ := h.lts
  exact h.with (h.ss.step ok hl) (ok.1.block _ l1 h.zf.1) (ok.1.block _ l2 h.zf.2.1) (ok.1.block _ l3 h.zf.2.2) (fun _ => id) hn
theorem Om.ssO (h : Om w Z s t p b1 b2 b3 ub ob rb k now es L' ad W' R' L W R wr) {b : Nat} (o : Only b b wr w5) (hz : Z b) (hb : w.heap.size ≤ b) : Ss w Z s t p b1 b2 b3 4 k now es L' ad W' R' w5 :=
  ⟨h.ss.sq.only o hz, h.ss.ln, h.ss.bl.trans (o.below hb hb h.ss.bl.size), h.ss.zb⟩
/-- 'until[a.G] = ..' behind a Sleep. -/
theorem Om.putU {x y g : Int} (h : Om w Z s t p b1 b2 b3 ub ob rb k now es L' ad W' R' L W R wr) (hg : hasG L g = false) :
    ∃ w6, (Instr.mapUpdate 64 (.map (some ub)) (.int .i64 g) (.int .i64 y)).run Try.prog wr = .ok () w6 ∧ Om w Z s t p b1 b2 b3 ub ob rb k now es L' ad W' R' (insF (y, x, g) L) W R w6 ∧ Only ub ub wr w6 := by
  obtain ⟨f, q, sp⟩ := h.ut
  obtain ⟨g2, q2, s2⟩ := h.ot
  obtain ⟨g3, q3, s3⟩ := h.rt
  have hn : f g = none := by
    rcases hf : f g with _ | v
    · rfl
    · obtain ⟨e, he, h2, _⟩ := (sp g v).1 hf
      exact absurd (List.mem_map.2 ⟨e, he, h2⟩) (of_decide_eq_false hg)
  obtain ⟨w6, r6, q6, o6⟩ := q.store und4 undG g (.int .i64 y)
  rw [if_pos hn] at q6
  refine ⟨w6, r6, ⟨h.ssO o6 h.zf.1 h.ge.1, ⟨_, by rw [len_ins]; exact q6, fun c v => ?_⟩, ⟨g2, q2.kept (o6.block _ q2.lt h.ge.2.2.2.1.symm h.ge.2.2.2.1.symm), s2⟩, ⟨g3, q3.kept (o6.block _ q3.lt h.ge.2.2.2.2.1.symm h.ge.2.2.2.2.1.symm), s3⟩, ⟨?_, h.nd.2⟩, h.nw, h.zf, h.ge⟩, o6⟩
  · simp only [updG]
    by_cases hc : c = g
    · subst hc
      simp only [if_true, Option.some.injEq]
      constructor
      · intro e; exact ⟨_, mem_ins.2 (.inl rfl), rfl, e.symm⟩
      · rintro ⟨e, he, h2, rfl⟩
        rcases mem_ins.1 he with rfl | he
        · rfl
        · exact absurd (List.mem_map.2 ⟨e, he, h2⟩) (of_decide_eq_false hg)
    · rw [if_neg hc, sp]
      constructor
      · rintro ⟨e, he, h2⟩; exact ⟨e, mem_ins.2 (.inr he), h2⟩
      · rintro ⟨e, he, h2, h3⟩
        rcases mem_ins.1 he with rfl | he
        · exact absurd h2.symm hc
        · exact ⟨e, he, h2, h3⟩
  · refine (((insF_perm (y, x, g) L).map fun e => e.2.2).nodup_iff).2 ?_
    have h3 : g ∉ gs L := of_decide_eq_false hg
    show (g :: gs L).Nodup
    exact List.nodup_cons.2 ⟨h3, h.nd.1⟩
/-- 'on[a.G] = a.FD' behind a Wait. -/
theorem Om.putO {fd a : Int} (h : Om w Z s t p b1 b2 b3 ub ob rb k now es L' ad W' R' L W R wr) (hw : waitsG W a = false) (hf : waitsF W fd = false) :
    ∃ w6, (Instr.mapUpdate 65 (.map (some ob)) (.int .i64 a) (.int .u16 fd)).run Try.prog wr = .ok () w6 ∧ Om w Z s t p b1 b2 b3 ub ob rb k now es L' ad W' R' L ((fd, a) :: W) R w6 := by
  obtain ⟨g1, q1, s1⟩ := h.ut
  obtain ⟨f, q, sp⟩ := h.ot
  obtain ⟨g3, q3, s3⟩ := h.rt
  have hn : f a = none := by
    rcases hf : f a with _ | v
    · rfl
    · obtain ⟨x, hx, _⟩ := (sp a v).1 hf
      exact absurd (List.mem_map.2 ⟨_, hx, rfl⟩) (of_decide_eq_false hw)
  obtain ⟨w6, r6, q6, o6⟩ := q.store und2 undG a (.int .u16 fd)
  rw [if_pos hn] at q6
  refine ⟨w6, r6, ⟨h.ssO o6 h.zf.2.1 h.ge.2.1, ⟨g1, q1.kept (o6.block _ q1.lt h.ge.2.2.2.1 h.ge.2.2.2.1), s1⟩, ⟨_, q6, fun c v => ?_⟩, ⟨g3, q3.kept (o6.block _ q3.lt h.ge.2.2.2.2.2.symm h.ge.2.2.2.2.2.symm), s3⟩, ⟨h.nd.1, List.nodup_cons.2 ⟨of_decide_eq_false hf, h.nd.2.1⟩, List.nodup_cons.2 ⟨of_decide_eq_false hw, h.nd.2.2.1⟩, h.nd.2.2.2⟩, h.nw, h.zf, h.ge⟩⟩
  simp only [updG]
  by_cases hc : c = a
  · subst hc
    simp only [if_true, Option.some.injEq]
    constructor
    · intro e; exact ⟨fd, List.mem_cons_self, e.symm⟩
    · rintro ⟨x, hx, rfl⟩
      rcases List.mem_cons.1 hx with e | hx
      · rw [show x = fd from congrArg Prod.fst e]
      · exact absurd (List.mem_map.2 ⟨_, hx, rfl⟩) (of_decide_eq_false hw)
  · rw [if_neg hc, sp]
    constructor
    · rintro ⟨x, hx, h2⟩; exact ⟨x, List.mem_cons_of_mem _ hx, h2⟩
    · rintro ⟨x, hx, h2⟩
      rcases List.mem_cons.1 hx with e | hx
      · exact absurd (congrArg Prod.snd e) hc
      · exact ⟨x, hx, h2⟩
/-- 'ready[a.FD] = 1' behind a Ready. -/
theorem Om.putR {fd : Int} (h : Om w Z s t p b1 b2 b3 ub ob rb k now es L' ad W' R' L W R wr) :
    ∃ w6, (Instr.mapUpdate 66 (.map (some rb)) (.int .u16 fd) (.int .i64 1)).run Try.prog wr = .ok () w6 ∧ Om w Z s t p b1 b2 b3 ub ob rb k now es L' ad W' R' L W (addR R fd) w6 := by
  obtain ⟨g1, q1, s1⟩ := h.ut
  obtain ⟨g2, q2, s2⟩ := h.ot
  obtain ⟨f, q, sp⟩ := h.rt
  obtain ⟨w6, r6, q6, o6⟩ := q.store und1 undF fd (.int .i64 1)
  refine ⟨w6, r6, ⟨h.ssO o6 h.zf.2.2 h.ge.2.2.1, ⟨g1, q1.kept (o6.block _ q1.lt h.ge.2.2.2.2.1 h.ge.2.2.2.2.1), s1⟩, ⟨g2, q2.kept (o6.block _ q2.lt h.ge.2.2.2.2.2 h.ge.2.2.2.2.2), s2⟩, ?_, ⟨h.nd.1, h.nd.2.1, h.nd.2.2.1, addR_nodup h.nd.2.2.2⟩, h.nw, h.zf, h.ge⟩⟩
  by_cases hin : fd ∈ R
  · rw [if_neg (by rw [sp, if_pos hin]; simp)] at q6
    refine ⟨_, by rw [addR, if_pos hin]; exact q6, fun a => ?_⟩
    rw [addR, if_pos hin]
    simp only [updG]
    by_cases ha : a = fd
    · subst ha; simp [hin]
    · rw [if_neg ha, sp]
  · rw [if_pos (by rw [sp, if_neg hin])] at q6
    refine ⟨_, by rw [addR, if_neg hin]; exact q6, fun a => ?_⟩
    rw [addR, if_neg hin]
    simp only [updG]
    by_cases ha : a = fd
    · subst ha; simp
    · rw [if_neg ha, sp]; simp [ha]
theorem Om.noU {a : Int} (h : Om w Z s t p b1 b2 b3 ub ob rb k now es L' ad W' R' L W R wr) (ha : hasG L a = false) : (Instr.lookup 64 (.map (some ub)) (.int .i64 a) true).run Try.prog wr = .ok (.tuple #[.int .i64 0, .bool false]) wr := by
  obtain ⟨f, q, sp⟩ := h.ut
  refine q.look_miss und4 undG zero4 ?_ true
  rcases hf : f a with _ | v
  · rfl
  · obtain ⟨e, he, h2, _⟩ := (sp a v).1 hf
    exact absurd (List.mem_map.2 ⟨e, he, h2⟩) (of_decide_eq_false ha)
theorem Om.yesU {e : En} (h : Om w Z s t p b1 b2 b3 ub ob rb k now es L' ad W' R' L W R wr) (he : e ∈ L) : (Instr.lookup 64 (.map (some ub)) (.int .i64 e.2.2) true).run Try.prog wr = .ok (.tuple #[.int .i64 e.1, .bool true]) wr := by
  obtain ⟨f, q, sp⟩ := h.ut
  exact q.look_hit und4 undG ((sp _ _).2 ⟨e, he, rfl, rfl⟩) true
theorem Om.noO {a : Int} (h : Om w Z s t p b1 b2 b3 ub ob rb k now es L' ad W' R' L W R wr) (ha : waitsG W a = false) : (Instr.lookup 65 (.map (some ob)) (.int .i64 a) true).run Try.prog wr = .ok (.tuple #[.int .u16 0, .bool false]) wr := by
  obtain ⟨f, q, sp⟩ := h.ot
  refine q.look_miss und2 undG zero2 ?_ true
  rcases hf : f a with _ | v
  · rfl
  · obtain ⟨x, hx, _⟩ := (sp a v).1 hf
    exact absurd (List.mem_map.2 ⟨_, hx, rfl⟩) (of_decide_eq_false ha)
theorem Om.yesO {m y : Int} (h : Om w Z s t p b1 b2 b3 ub ob rb k now es L' ad W' R' L W R wr) (hm : (m, y) ∈ W) : (Instr.lookup 65 (.map (some ob)) (.int .i64 y) true).run Try.prog wr = .ok (.tuple #[.int .u16 m, .bool true]) wr := by
  obtain ⟨f, q, sp⟩ := h.ot
  exact q.look_hit und2 undG ((sp _ _).2 ⟨m, hm, rfl⟩) true
theorem Om.yesR {m : Int} (h : Om w Z s t p b1 b2 b3 ub ob rb k now es L' ad W' R' L W R wr) (hm : m ∈ R) : (Instr.lookup 66 (.map (some rb)) (.int .u16 m) false).run Try.prog wr = .ok (.int .i64 1) wr := by
  obtain ⟨f, q, sp⟩ := h.rt
  exact q.look_hit und1 undF (by rw [sp, if_pos hm]) false
/-- 'delete(until, g)'. -/
theorem Om.delU {x1 x2 x3 : Int} (h : Om w Z s t p b1 b2 b3 ub ob rb k now es L' ad W' R' ((x1, x2, x3) :: l) W R wr) :
    ∃ w6, (Builtin.delete_ #[64, 3] 0 #[.map (some ub), .int .i64 x3]).run Try.prog wr = .ok (.tuple #[]) w6 ∧ Om w Z s t p b1 b2 b3 ub ob rb k now es L' ad W' R' l W R w6 := by
  obtain ⟨f, q, sp⟩ := h.ut
  obtain ⟨g2, q2, s2⟩ := h.ot
  obtain ⟨g3, q3, s3⟩ := h.rt
  obtain ⟨n1, n2⟩ := List.nodup_cons.1 h.nd.1
  obtain ⟨w6, r6, q6, o6⟩ := q.del und4 undG 0 x3
  have k1 : f x3 = some (.int .i64 x1) := (sp _ _).2 ⟨_, List.mem_cons_self, rfl, rfl⟩
  rw [if_neg (by rw [k1]; simp), List.length_cons, Nat.add_sub_cancel] at q6
  refine ⟨w6, r6, ⟨h.ssO o6 h.zf.1 h.ge.1, ⟨_, q6, fun c v => ?_⟩, ⟨g2, q2.kept (o6.block _ q2.lt h.ge.2.2.2.1.symm h.ge.2.2.2.1.symm), s2⟩, ⟨g3, q3.kept (o6.block _ q3.lt h.ge.2.2.2.2.1.symm h.ge.2.2.2.2.1.symm), s3⟩, ⟨n2, h.nd.2⟩, h.nw, h.zf, h.ge⟩⟩
  simp only [updG]
  by_cases hc : c = x3
  · subst hc
    simp only [if_true]
    constructor
    · intro e; cases e
    · rintro ⟨e, he, h2, _⟩; exact absurd (List.mem_map.2 ⟨e, he, h2⟩) n1
  · rw [if_neg hc, sp]
    constructor
    · rintro ⟨e, he, h2, h3⟩
      rcases List.mem_cons.1 he with rfl | he
      · exact absurd h2.symm hc
      · exact ⟨e, he, h2, h3⟩
    · rintro ⟨e, he, h2⟩; exact ⟨e, List.mem_cons_of_mem _ he, h2⟩
theorem Om.delU0 {a : Int} (h : Om w Z s t p b1 b2 b3 ub ob rb k now es L' ad W' R' L W R wr) (ha : hasG L a = false) :
    ∃ w6, (Builtin.delete_ #[64, 3] 0 #[.map (some ub), .int .i64 a]).run Try.prog wr = .ok (.tuple #[]) w6 ∧ Om w Z s t p b1 b2 b3 ub ob rb k now es L' ad W' R' L W R w6 := by
  obtain ⟨f, q, sp⟩ := h.ut
  obtain ⟨g2, q2, s2⟩ := h.ot
  obtain ⟨g3, q3, s3⟩ := h.rt
  obtain ⟨w6, r6, q6, o6⟩ := q.del und4 undG 0 a
  have k1 : f a = none := by
    rcases hf : f a with _ | v
    · rfl
    · obtain ⟨e, he, h2, _⟩ := (sp a v).1 hf
      exact absurd (List.mem_map.2 ⟨e, he, h2⟩) (of_decide_eq_false ha)
  rw [if_pos k1] at q6
  refine ⟨w6, r6, ⟨h.ssO o6 h.zf.1 h.ge.1, ⟨_, q6, fun c v => ?_⟩, ⟨g2, q2.kept (o6.block _ q2.lt h.ge.2.2.2.1.symm h.ge.2.2.2.1.symm), s2⟩, ⟨g3, q3.kept (o6.block _ q3.lt h.ge.2.2.2.2.1.symm h.ge.2.2.2.2.1.symm), s3⟩, h.nd, h.nw, h.zf, h.ge⟩⟩
  simp only [updG]
  by_cases hc : c = a
  · subst hc; rw [if_pos rfl, ← sp, k1]
  · rw [if_neg hc, sp]
/-- 'delete(on, g)'. -/
theorem Om.delO {m y : Int} (h : Om w Z s t p b1 b2 b3 ub ob rb k now es L' ad W' R' L W R wr) (hm : (m, y) ∈ W) :
    ∃ w6, (Builtin.delete_ #[65, 3] 0 #[.map (some ob), .int .i64 y]).run Try.prog wr = .ok (.tuple #[]) w6 ∧ Om w Z s t p b1 b2 b3 ub ob rb k now es L' ad W' R' L (W.filter fun e => !(e.1 == m)) R w6 := by
  obtain ⟨g1, q1, s1⟩ := h.ut
  obtain ⟨f, q, sp⟩ := h.ot
  obtain ⟨g3, q3, s3⟩ := h.rt
  obtain ⟨w6, r6, q6, o6⟩ := q.del und2 undG 0 y
  have k1 : f y = some (.int .u16 m) := (sp _ _).2 ⟨m, hm, rfl⟩
  rw [if_neg (by rw [k1]; simp), ← len_drop h.nd.2.1 hm] at q6
  refine ⟨w6, r6, ⟨h.ssO o6 h.zf.2.1 h.ge.2.1, ⟨g1, q1.kept (o6.block _ q1.lt h.ge.2.2.2.1 h.ge.2.2.2.1), s1⟩, ⟨_, q6, fun c v => ?_⟩, ⟨g3, q3.kept (o6.block _ q3.lt h.ge.2.2.2.2.2.symm h.ge.2.2.2.2.2.symm), s3⟩, ⟨h.nd.1, h.nd.2.1.sublist (List.filter_sublist.map _), h.nd.2.2.1.sublist (List.filter_sublist.map _), h.nd.2.2.2⟩, h.nw, h.zf, h.ge⟩⟩
  simp only [updG, List.mem_filter]
  by_cases hc : c = y
  · subst hc
    simp only [if_true]
    constructor
    · intro e; cases e
    · rintro ⟨x, ⟨hx, h2⟩, _⟩
      have k2 := (sp c _).2 ⟨x, hx, rfl⟩
      rw [k1] at k2
      have k3 : Value.int .u16 m = Value.int .u16 x := Option.some.inj k2
      have : m = x := (Value.int.inj k3).2
      subst this
      simp at h2
  · rw [if_neg hc, sp]
    constructor
    · rintro ⟨x, hx, h2⟩
      refine ⟨x, ⟨hx, ?_⟩, h2⟩
      have : x ≠ m := fun e => hc (pair_snd h.nd.2.1 (e ▸ hx) hm)
      simpa using this
    · rintro ⟨x, ⟨hx, _⟩, h2⟩; exact ⟨x, hx, h2⟩
theorem Om.delO0 {a : Int} (h : Om w Z s t p b1 b2 b3 ub ob rb k now es L' ad W' R' L W R wr) (ha : waitsG W a = false) :
    ∃ w6, (Builtin.delete_ #[65, 3] 0 #[.map (some ob), .int .i64 a]).run Try.prog wr = .ok (.tuple #[]) w6 ∧ Om w Z s t p b1 b2 b3 ub ob rb k now es L' ad W' R' L W R w6 := by
  obtain ⟨g1, q1, s1⟩ := h.ut
  obtain ⟨f, q, sp⟩ := h.ot
  obtain ⟨g3, q3, s3⟩ := h.rt
  obtain ⟨w6, r6, q6, o6⟩ := q.del und2 undG 0 a
  have k1 : f a = none := by
    rcases hf : f a with _ | v
    · rfl
    · obtain ⟨x, hx, _⟩ := (sp a v).1 hf
      exact absurd (List.mem_map.2 ⟨_, hx, rfl⟩) (of_decide_eq_false ha)
  rw [if_pos k1] at q6
  refine ⟨w6, r6, ⟨h.ssO o6 h.zf.2.1 h.ge.2.1, ⟨g1, q1.kept (o6.block _ q1.lt h.ge.2.2.2.1 h.ge.2.2.2.1), s1⟩, ⟨_, q6, fun c v => ?_⟩, ⟨g3, q3.kept (o6.block _ q3.lt h.ge.2.2.2.2.2.symm h.ge.2.2.2.2.2.symm), s3⟩, h.nd, h.nw, h.zf, h.ge⟩⟩
  simp only [updG]
  by_cases hc : c = a
  · subst hc; rw [if_pos rfl, ← sp, k1]
  · rw [if_neg hc, sp]
/-- 'delete(ready, fd)'. -/
theorem Om.delR {m : Int} (h : Om w Z s t p b1 b2 b3 ub ob rb k now es L' ad W' R' L W R wr) (hm : m ∈ R) :
    ∃ w6, (Builtin.delete_ #[66, 31] 0 #[.map (some rb), .int .u16 m]).run Try.prog wr = .ok (.tuple #[]) w6 ∧ Om w Z s t p b1 b2 b3 ub ob rb k now es L' ad W' R' L W (R.filter fun a => !(a == m)) w6 := by
  obtain ⟨g1, q1, s1⟩ := h.ut
  obtain ⟨g2, q2, s2⟩ := h.ot
  obtain ⟨f, q, sp⟩ := h.rt
  obtain ⟨w6, r6, q6, o6⟩ := q.del und1 undF 0 m
  rw [if_neg (by rw [sp, if_pos hm]; simp), ← len_drop2 h.nd.2.2.2 hm] at q6
  refine ⟨w6, r6, ⟨h.ssO o6 h.zf.2.2 h.ge.2.2.1, ⟨g1, q1.kept (o6.block _ q1.lt h.ge.2.2.2.2.1 h.ge.2.2.2.2.1), s1⟩, ⟨g2, q2.kept (o6.block _ q2.lt h.ge.2.2.2.2.2 h.ge.2.2.2.2.2), s2⟩, ⟨_, q6, fun c => ?_⟩, ⟨h.nd.1, h.nd.2.1, h.nd.2.2.1, h.nd.2.2.2.sublist List.filter_sublist⟩, h.nw, h.zf, h.ge⟩⟩
  simp only [updG, List.mem_filter]
  by_cases hc : c = m
  · subst hc; simp
  · rw [if_neg hc, sp]; simp [hc]
theorem hasG_tail {x1 x2 x3 : Int} (h : (gs ((x1, x2, x3) :: l)).Nodup) : hasG l x3 = false := decide_eq_false (List.nodup_cons.1 h).1
theorem hasG_head {x1 x2 x3 : Int} : hasG ((x1, x2, x3) :: l) x3 = true := decide_eq_true (by simp)
theorem waitsG_yes {m y : Int} (hm : (m, y) ∈ W) : waitsG W y = true := decide_eq_true (List.mem_map.2 ⟨_, hm, rfl⟩)
theorem pair_fst : ∀ {W : List (Int × Int)}, (W.map Prod.snd).Nodup → ∀ {x m y : Int}, (x, y) ∈ W → (m, y) ∈ W → x = m
  | [], _, _, _, _, h, _ => by cases h
  | c :: W, hn, x, m, y, h1, h2 => by
    simp only [List.map_cons, List.nodup_cons] at hn
    rcases List.mem_cons.1 h1 with e1 | h1
    · rcases List.mem_cons.1 h2 with e2 | h2
      · rw [← e1] at e2; exact (congrArg Prod.fst e2).symm
      · exact absurd (List.mem_map.2 ⟨_, h2, by rw [← e1]⟩) hn.1
    · rcases List.mem_cons.1 h2 with e2 | h2
      · exact absurd (List.mem_map.2 ⟨_, h1, by rw [← e2]⟩) hn.1
      · exact pair_fst hn.2 h1 h2
theorem waitsG_drop {m y : Int} (hn : (W.map Prod.snd).Nodup) (hm : (m, y) ∈ W) : waitsG (W.filter fun e => !(e.1 == m)) y = false := by
  refine decide_eq_false fun h => ?_
  obtain ⟨⟨x, y'⟩, he, h2⟩ := List.mem_map.1 h
  have h2 : y' = y := h2
  subst h2
  obtain ⟨h3, h4⟩ := List.mem_filter.1 he
  have := pair_fst hn h3 hm
  subst this
  simp at h4
/-- The comparison at a round's end. -/
theorem Om.fin (h : Om w Z s t p b1 b2 b3 ub ob rb k now es L ad W R L W R wr) (hk : k ≤ 1000) :
    ∃ nL nW mm : Nat, (mm : Int) = nL + nW ∧ (nL ≤ 1000 ∧ nW ≤ 1000) ∧ Calls Try.prog 15 #[.pointer (some ⟨s, 0, none⟩)] wr (fun e w' => e = .returned (.int .i64 mm) ∧ Below wr.heap.size wr w') ∧
      ∀ w', Below wr.heap.size wr w' → (Builtin.len_ #[64] 3 #[.map (some ub)]).run Try.prog w' = .ok (.int .i64 nL) w' ∧ (Builtin.len_ #[65] 3 #[.map (some ob)]).run Try.prog w' = .ok (.int .i64 nW) w' := by
  have ln := h.ss.ln
  refine ⟨L.length, W.length, L.length + W.length, by simp, by omega, slen h.ss.sq (by omega) _ rfl, fun w' hb => ?_⟩
  obtain ⟨_, q1, _⟩ := (h.below hb).ut
  obtain ⟨_, q2, _⟩ := (h.below hb).ot
  exact ⟨q1.len und4 _, q2.len und2 _⟩
theorem w64 {x : Int} (h : inI x) : IntKind.i64.wrap x = x := by
  unfold inI at h
  have hb : IntKind.i64.bits = 64 := rfl
  have hs : IntKind.i64.signed = true := rfl
  simp [IntKind.wrap, hb, hs]; split <;> omega
end
set_option maxRecDepth 100000 in
set_option maxHeartbeats 64000000 in
theorem walk (a0 : Option Addr) (len0 cap0 : Nat) (z0 : Nat → Nat → Int) (w : World) (w0 : IsStructs [.u8, .i64, .i64, .i64, .u16] w a0 len0 cap0 z0) :
    Calls Try.prog 6 #[.slice a0 len0 cap0] w fun e w' => e = .returned (.bool true) ∧ Below w.heap.size w w' := by
  by_cases hlen : (50 : Int) < len0
  · go_enter Try.func6, Try.ntmps6
    go_wp2_with fail
    refine (lives12 _).mono ?_
    rintro e w2 ⟨rfl, hb1⟩
    go_wp2_with fail
    refine (lives12 _).mono ?_
    rintro e w3 ⟨rfl, hb2⟩
    go_wp2
    go_ret
    exact ⟨rfl, hb1.trans (hb2.mono hb1.size)⟩
  · have hlen' : len0 ≤ 50 := by omega
    have W0 := hid w0
    clear w0 hlen
    have mk : ∀ T (w : World), (Instr.makeMap T none).run Try.prog w = .ok (.map (some w.heap.size)) (w.alloc (.map #[] 0)) := fun T w => rfl
    go_enter Try.func6, Try.ntmps6
    go_wp2_with fail
    refine (lives12 _).mono ?_
    rintro e w2 ⟨rfl, hb1⟩
    have HB1 := hid hb1
    clear hb1
    go_wp2_with fail
    refine (snew 4 (by decide) (by decide) _).mono ?_
    rintro e w3 ⟨Y, s, t, p, b1, b2, b3, rfl, q3, bl3, hz, hz2⟩
    obtain ⟨ub, hub⟩ : ∃ x, x = w3.heap.size := ⟨_, rfl⟩
    obtain ⟨ob, hob⟩ : ∃ x, x = w3.heap.size + 1 := ⟨_, rfl⟩
    obtain ⟨rb, hrb⟩ : ∃ x, x = w3.heap.size + 1 + 1 := ⟨_, rfl⟩
    obtain ⟨Z, hZ⟩ : ∃ Z : Nat → Prop, Z = fun q => ((Y q ∨ q = w3.heap.size) ∨ q = w3.heap.size + 1) ∨ q = w3.heap.size + 1 + 1 := ⟨_, rfl⟩
    have S0 : Hid (Om w Z s t p b1 b2 b3 ub ob rb 0 0 (fun _ => []) [] 0 [] [] [] [] [] (((w3.alloc (.map #[] 0)).alloc (.map #[] 0)).alloc (.map #[] 0))) := by
      have r1 := Sq.newZ q3 (bl_al w3 (.map #[] 0)) (al_lt w3 _)
      have r2 := Sq.newZ r1 (bl_al _ (.map #[] 0)) (al_lt _ _)
      have r3 := Sq.newZ r2 (bl_al _ (.map #[] 0)) (al_lt _ _)
      simp only [World.size_alloc] at r2 r3
      rw [← hZ] at r3
      have c1 := ((MapI.new w3 .i64).kept (Below.heap_alloc (w3.alloc (.map #[] 0)) (.map #[] 0) w3.heap.size (by simp))).kept (Below.heap_alloc ((w3.alloc (.map #[] 0)).alloc (.map #[] 0)) (.map #[] 0) w3.heap.size (by simp; omega))
      have c2 := (MapI.new (w3.alloc (.map #[] 0)) .i64).kept (Below.heap_alloc ((w3.alloc (.map #[] 0)).alloc (.map #[] 0)) (.map #[] 0) _ (by simp))
      have c3 := MapI.new ((w3.alloc (.map #[] 0)).alloc (.map #[] 0)) .u16
      simp only [World.size_alloc] at c2 c3
      have s3 := bl3.size
      have sw := HB1.out.size
      refine hid ⟨⟨r3, by simp, (((HB1.out.trans (bl3.mono sw)).trans ((bl_al w3 _).mono (by omega))).trans ((bl_al _ _).mono (by simp; omega))).trans ((bl_al _ _).mono (by simp; omega)), fun q hq => ?_⟩, ⟨_, by rw [hub]; exact c1, by simp⟩, ⟨_, by rw [hob]; exact c2, by simp⟩, ⟨_, by rw [hrb]; exact c3, by simp⟩, by simp, Int.le_refl _, ⟨by rw [hZ]; exact .inl (.inl (.inr hub)), by rw [hZ]; exact .inl (.inr hob), by rw [hZ]; exact .inr hrb⟩, by omega⟩
      rw [hZ]; exact .inl (.inl (.inl (hz q (by omega))))
    clear q3 bl3 hz hz2 hZ HB1
    go_wp2_with fail
    try rw [← hrb]
    try rw [← hob]
    try rw [← hub]
    clear mk hrb hob hub
    go_loopw [35] (fun i wr => ∃ (k : Nat) (Z : Nat → Prop) (now : Int) (es : Nat → List En) (L : List En) (ad : Nat) (W : List (Int × Int)) (R : List Int), k ≤ len0 ∧ i = .int .i64 k ∧ Hid (Om w Z s t p b1 b2 b3 ub ob rb k now es L ad W R L W R wr) ∧ Below w.heap.size w wr) (fun i _ => len0 - (intOf i).toNat)
    case atStart => exact ⟨0, Z, 0, _, [], 0, [], [], by omega, rfl, S0, S0.out.ss.bl⟩
    case round =>
      clear S0
      obtain ⟨k, Z, now, es, L, ad, W, R, hk, rfl, F, hbr⟩ := hrel
      by_cases hlt : k < len0
      · obtain ⟨bx, off, rfl, hcell⟩ := W0.out.open (by omega) (by simp)
        obtain ⟨hq0, hw0⟩ := hcell _ hbr k hlt 0 .u8 rfl
        obtain ⟨hq1, hw1⟩ := hcell _ hbr k hlt 1 .i64 rfl
        obtain ⟨hq2, hw2⟩ := hcell _ hbr k hlt 2 .i64 rfl
        obtain ⟨hq3, hw3⟩ := hcell _ hbr k hlt 3 .i64 rfl
        obtain ⟨hq4, hw4⟩ := hcell _ hbr k hlt 4 .u16 rfl
        obtain ⟨K, hK⟩ : ∃ x, x = z0 k 0 := ⟨_, rfl⟩
        obtain ⟨P, hP⟩ : ∃ x, x = z0 k 1 := ⟨_, rfl⟩
        obtain ⟨G, hG⟩ : ∃ x, x = z0 k 2 := ⟨_, rfl⟩
        obtain ⟨D, hD⟩ : ∃ x, x = z0 k 3 := ⟨_, rfl⟩
        obtain ⟨fd, hf⟩ : ∃ x, x = z0 k 4 := ⟨_, rfl⟩
        rw [← hK] at hq0 hw0
        rw [← hP] at hq1
        rw [← hG] at hq2
        rw [← hD] at hq3 hw3
        rw [← hf] at hq4
        obtain ⟨K0, K1⟩ := bounds_u8 hw0
        have ID := hid (show inI D from bounds_i64 hw3)
        simp only [List.length_cons, List.length_nil, Nat.reduceAdd, Nat.add_zero] at hq0 hq1 hq2 hq3 hq4
        rw [← Nat.add_assoc] at hq1 hq2 hq3 hq4
        clear hcell hw0 hw1 hw2 hw3 hw4 hK hP hG hD hf hbr
        have LN := hid F.out.ss.ln
        have NE := hid F.out.lts
        have NW := hid F.out.nw
        have FA := hid (F.out.alloc (.cells #[.int .u8 K, .int .i64 P, .int .i64 G, .int .i64 D, .int .u16 fd] 38))
        have EB := hid (Go.MapKept.heap_alloc wr (.cells #[.int .u8 K, .int .i64 P, .int .i64 G, .int .i64 D, .int .u16 fd] 38)).1
        clear F
        rcases (show K % 8 = 0 ∨ K % 8 = 1 ∨ K % 8 = 2 ∨ K % 8 = 3 ∨ K % 8 = 4 ∨ K % 8 = 5 ∨ K % 8 = 6 ∨ K % 8 = 7 by omega) with hq | hq | hq | hq | hq | hq | hq | hq
        · as_aux_lemma =>
            have A6 := hid (sleepP FA.out.ss.sq (by have := LN.out; omega) (by have := LN.out; omega) P G D ID.out)
            have k1 : (wr.alloc (.cells #[.int .u8 K, .int .i64 P, .int .i64 G, .int .i64 D, .int .u16 fd] 38)).cell? ⟨wr.heap.size, 1, none⟩ = some (.int .i64 P) := cellx EB.out rfl
            go_wp2_with fail
            refine (A6.out).mono ?_
            rintro e w6 ⟨is, c, es', L', ad', rfl, o6, h6⟩
            have E6 := hid ((o6.1.block _ (al_lt wr _) (.inr rfl)).trans EB.out)
            have e2 : w6.cell? ⟨wr.heap.size, 2, none⟩ = some (.int .i64 G) := cellx E6.out rfl
            have e3 : w6.cell? ⟨wr.heap.size, 3, none⟩ = some (.int .i64 D) := cellx E6.out rfl
            rcases h6 with ⟨rfl, _, rfl, rfl, hh, _⟩ | ⟨hc, rfl, rfl, rfl⟩
            · obtain ⟨y, hy⟩ : ∃ y, y = sat now (max D 0) := ⟨_, rfl⟩
              rw [← hy] at o6
              have F6 := hid ((FA.out.step o6 (by have := LN.out; rw [len_ins]; omega) NW.out).below (bl_drw w6 _))
              have C6 := hid (snow F6.out.ss.sq)
              have hne : wr.heap.size ≠ ub := by have := NE.out; omega
              obtain ⟨w7, r7, p7, o7⟩ := F6.out.putU (x := (ad : Int)) (y := y) hh
              have E7 := hid ((o7.block _ (Nat.lt_of_lt_of_le (Array.getElem?_eq_some_iff.1 E6.out).1 (Nat.le_refl _)) hne hne).trans E6.out)
              have F7 := hid p7
              have hn0 := NW.out
              have hnI := F6.out.ss.sq.now
              have hdI := ID.out
              obtain ⟨m, hm⟩ : ∃ m, m = 9223372036854775807 - now := ⟨_, rfl⟩
              have hwm : IntKind.i64.wrap (9223372036854775807 - now) = m := by rw [hm]; exact w64 (by unfold inI at hnI ⊢; omega)
              have hm0 : 0 ≤ m := by unfold inI at hnI; omega
              clear p7 o7 o6 hh A6 FA E6 k1 EB hq0 hq1 hq2 hq3 hq4
              rcases (show D ≤ 0 ∨ (0 < D ∧ m < D) ∨ (0 < D ∧ D ≤ m) by omega) with c1 | ⟨c1, c2⟩ | ⟨c1, c2⟩
              · have w1 : IntKind.i64.wrap (now) = y := by rw [w64 (by unfold inI at hnI hdI ⊢; omega), hy]; unfold sat; unfold inI at hnI; omega
                have n1 : ¬ 0 < D := by omega
                have n2 : ¬ m < 0 := by omega
                clear hy hm hnI hdI
                go_upto_region 14 with fail
                go_region_held3 (fun y => y.cell? ⟨wr.heap.size, 2, none⟩ = some (.int .i64 G) ∧ y.cell? ⟨wr.heap.size, 3, none⟩ = some (.int .i64 D))
                  (first
                    | exact ⟨e2, e3⟩
                    | exact ⟨cellx E7.out rfl, cellx E7.out rfl⟩)
                  (first
                    | (go_at_call 16; refine (C6.out).mono ?_; rintro e w' ⟨rfl, rfl⟩))
                all_goals
                  clear C6 F6 w1 hwm hm0 e2 e3 r7 hn0 E7 hne
                  obtain ⟨nL, nW, mm, hmI, hnb, A9, LE⟩ := F7.out.fin (by omega)
                  have HA9 := hid A9
                  have HLE := hid LE
                  clear A9 LE
                  go_wp2_with fail
                  refine (HA9.out).mono ?_
                  rintro e w9 ⟨rfl, b9⟩
                  obtain ⟨l1, l2⟩ := HLE.out w9 b9
                  have F9 := hid (F7.out.below b9)
                  have B9 := F9.out.ss.bl
                  clear b9 HA9 HLE F7
                  go_wp2
                  go_roundw
                  case rel => exact ⟨k + 1, _, _, _, _, _, _, _, by omega, by go_num, F9, B9⟩
                  case measure => simp [intOf]; omega
              · have w1 : IntKind.i64.wrap (now + m) = y := by rw [w64 (by unfold inI at hnI hdI ⊢; omega), hy]; unfold sat; unfold inI at hnI; omega
                have n3 : 0 ≤ D := by omega
                clear hy hm hnI hdI
                go_upto_region 14 with fail
                go_region_held3 (fun y => y.cell? ⟨wr.heap.size, 2, none⟩ = some (.int .i64 G) ∧ y.cell? ⟨wr.heap.size, 3, none⟩ = some (.int .i64 D))
                  (first
                    | exact ⟨e2, e3⟩
                    | exact ⟨cellx E7.out rfl, cellx E7.out rfl⟩)
                  (first
                    | (go_at_call 16; refine (C6.out).mono ?_; rintro e w' ⟨rfl, rfl⟩))
                all_goals
                  clear C6 F6 w1 hwm hm0 e2 e3 r7 hn0 E7 hne
                  obtain ⟨nL, nW, mm, hmI, hnb, A9, LE⟩ := F7.out.fin (by omega)
                  have HA9 := hid A9
                  have HLE := hid LE
                  clear A9 LE
                  go_wp2_with fail
                  refine (HA9.out).mono ?_
                  rintro e w9 ⟨rfl, b9⟩
                  obtain ⟨l1, l2⟩ := HLE.out w9 b9
                  have F9 := hid (F7.out.below b9)
                  have B9 := F9.out.ss.bl
                  clear b9 HA9 HLE F7
                  go_wp2
                  go_roundw
                  case rel => exact ⟨k + 1, _, _, _, _, _, _, _, by omega, by go_num, F9, B9⟩
                  case measure => simp [intOf]; omega
              · have w1 : IntKind.i64.wrap (now + D) = y := by rw [w64 (by unfold inI at hnI hdI ⊢; omega), hy]; unfold sat; unfold inI at hnI; omega
                have n3 : 0 ≤ D := by omega
                clear hy hm hnI hdI
                go_upto_region 14 with fail
                go_region_held3 (fun y => y.cell? ⟨wr.heap.size, 2, none⟩ = some (.int .i64 G) ∧ y.cell? ⟨wr.heap.size, 3, none⟩ = some (.int .i64 D))
                  (first
                    | exact ⟨e2, e3⟩
                    | exact ⟨cellx E7.out rfl, cellx E7.out rfl⟩)
                  (first
                    | (go_at_call 16; refine (C6.out).mono ?_; rintro e w' ⟨rfl, rfl⟩))
                all_goals
                  clear C6 F6 w1 hwm hm0 e2 e3 r7 hn0 E7 hne
                  obtain ⟨nL, nW, mm, hmI, hnb, A9, LE⟩ := F7.out.fin (by omega)
                  have HA9 := hid A9
                  have HLE := hid LE
                  clear A9 LE
                  go_wp2_with fail
                  refine (HA9.out).mono ?_
                  rintro e w9 ⟨rfl, b9⟩
                  obtain ⟨l1, l2⟩ := HLE.out w9 b9
                  have F9 := hid (F7.out.below b9)
                  have B9 := F9.out.ss.bl
                  clear b9 HA9 HLE F7
                  go_wp2
                  go_roundw
                  case rel => exact ⟨k + 1, _, _, _, _, _, _, _, by omega, by go_num, F9, B9⟩
                  case measure => simp [intOf]; omega
            · have F6 := hid (FA.out.step o6 (by have := LN.out; omega) NW.out)
              have HC := hid hc
              have hcb : (c == 0) = false := by simpa using hc
              clear hc o6 A6 FA E6 k1 EB hq0 hq1 hq2 hq3 hq4
              obtain ⟨nL, nW, mm, hmI, hnb, A9, LE⟩ := F6.out.fin (by omega)
              have HA9 := hid A9
              have HLE := hid LE
              clear A9 LE
              go_wp2_with fail
              refine (HA9.out).mono ?_
              rintro e w9 ⟨rfl, b9⟩
              obtain ⟨l1, l2⟩ := HLE.out w9 b9
              have F9 := hid (F6.out.below b9)
              have B9 := F9.out.ss.bl
              clear b9 HA9 HLE F6
              go_wp2
              go_roundw
              case rel => exact ⟨k + 1, _, _, _, _, _, _, _, by omega, by go_num, F9, B9⟩
              case measure => simp [intOf]; omega
        · as_aux_lemma =>
            have A6 := hid (sleepP FA.out.ss.sq (by have := LN.out; omega) (by have := LN.out; omega) P G D ID.out)
            have k1 : (wr.alloc (.cells #[.int .u8 K, .int .i64 P, .int .i64 G, .int .i64 D, .int .u16 fd] 38)).cell? ⟨wr.heap.size, 1, none⟩ = some (.int .i64 P) := cellx EB.out rfl
            go_wp2_with fail
            refine (A6.out).mono ?_
            rintro e w6 ⟨is, c, es', L', ad', rfl, o6, h6⟩
            have E6 := hid ((o6.1.block _ (al_lt wr _) (.inr rfl)).trans EB.out)
            have e2 : w6.cell? ⟨wr.heap.size, 2, none⟩ = some (.int .i64 G) := cellx E6.out rfl
            have e3 : w6.cell? ⟨wr.heap.size, 3, none⟩ = some (.int .i64 D) := cellx E6.out rfl
            rcases h6 with ⟨rfl, _, rfl, rfl, hh, _⟩ | ⟨hc, rfl, rfl, rfl⟩
            · obtain ⟨y, hy⟩ : ∃ y, y = sat now (max D 0) := ⟨_, rfl⟩
              rw [← hy] at o6
              have F6 := hid ((FA.out.step o6 (by have := LN.out; rw [len_ins]; omega) NW.out).below (bl_drw w6 _))
              have C6 := hid (snow F6.out.ss.sq)
              have hne : wr.heap.size ≠ ub := by have := NE.out; omega
              obtain ⟨w7, r7, p7, o7⟩ := F6.out.putU (x := (ad : Int)) (y := y) hh
              have E7 := hid ((o7.block _ (Nat.lt_of_lt_of_le (Array.getElem?_eq_some_iff.1 E6.out).1 (Nat.le_refl _)) hne hne).trans E6.out)
              have F7 := hid p7
              have hn0 := NW.out
              have hnI := F6.out.ss.sq.now
              have hdI := ID.out
              obtain ⟨m, hm⟩ : ∃ m, m = 9223372036854775807 - now := ⟨_, rfl⟩
              have hwm : IntKind.i64.wrap (9223372036854775807 - now) = m := by rw [hm]; exact w64 (by unfold inI at hnI ⊢; omega)
              have hm0 : 0 ≤ m := by unfold inI at hnI; omega
              clear p7 o7 o6 hh A6 FA E6 k1 EB hq0 hq1 hq2 hq3 hq4
              rcases (show D ≤ 0 ∨ (0 < D ∧ m < D) ∨ (0 < D ∧ D ≤ m) by omega) with c1 | ⟨c1, c2⟩ | ⟨c1, c2⟩
              · have w1 : IntKind.i64.wrap (now) = y := by rw [w64 (by unfold inI at hnI hdI ⊢; omega), hy]; unfold sat; unfold inI at hnI; omega
                have n1 : ¬ 0 < D := by omega
                have n2 : ¬ m < 0 := by omega
                clear hy hm hnI hdI
                go_upto_region 14 with fail
                go_region_held3 (fun y => y.cell? ⟨wr.heap.size, 2, none⟩ = some (.int .i64 G) ∧ y.cell? ⟨wr.heap.size, 3, none⟩ = some (.int .i64 D))
                  (first
                    | exact ⟨e2, e3⟩
                    | exact ⟨cellx E7.out rfl, cellx E7.out rfl⟩)
                  (first
                    | (go_at_call 16; refine (C6.out).mono ?_; rintro e w' ⟨rfl, rfl⟩))
                all_goals
                  clear C6 F6 w1 hwm hm0 e2 e3 r7 hn0 E7 hne
                  obtain ⟨nL, nW, mm, hmI, hnb, A9, LE⟩ := F7.out.fin (by omega)
                  have HA9 := hid A9
                  have HLE := hid LE
                  clear A9 LE
                  go_wp2_with fail
                  refine (HA9.out).mono ?_
                  rintro e w9 ⟨rfl, b9⟩
                  obtain ⟨l1, l2⟩ := HLE.out w9 b9
                  have F9 := hid (F7.out.below b9)
                  have B9 := F9.out.ss.bl
                  clear b9 HA9 HLE F7
                  go_wp2
                  go_roundw
                  case rel => exact ⟨k + 1, _, _, _, _, _, _, _, by omega, by go_num, F9, B9⟩
                  case measure => simp [intOf]; omega
              · have w1 : IntKind.i64.wrap (now + m) = y := by rw [w64 (by unfold inI at hnI hdI ⊢; omega), hy]; unfold sat; unfold inI at hnI; omega
                have n3 : 0 ≤ D := by omega
                clear hy hm hnI hdI
                go_upto_region 14 with fail
                go_region_held3 (fun y => y.cell? ⟨wr.heap.size, 2, none⟩ = some (.int .i64 G) ∧ y.cell? ⟨wr.heap.size, 3, none⟩ = some (.int .i64 D))
                  (first
                    | exact ⟨e2, e3⟩
                    | exact ⟨cellx E7.out rfl, cellx E7.out rfl⟩)
                  (first
                    | (go_at_call 16; refine (C6.out).mono ?_; rintro e w' ⟨rfl, rfl⟩))
                all_goals
                  clear C6 F6 w1 hwm hm0 e2 e3 r7 hn0 E7 hne
                  obtain ⟨nL, nW, mm, hmI, hnb, A9, LE⟩ := F7.out.fin (by omega)
                  have HA9 := hid A9
                  have HLE := hid LE
                  clear A9 LE
                  go_wp2_with fail
                  refine (HA9.out).mono ?_
                  rintro e w9 ⟨rfl, b9⟩
                  obtain ⟨l1, l2⟩ := HLE.out w9 b9
                  have F9 := hid (F7.out.below b9)
                  have B9 := F9.out.ss.bl
                  clear b9 HA9 HLE F7
                  go_wp2
                  go_roundw
                  case rel => exact ⟨k + 1, _, _, _, _, _, _, _, by omega, by go_num, F9, B9⟩
                  case measure => simp [intOf]; omega
              · have w1 : IntKind.i64.wrap (now + D) = y := by rw [w64 (by unfold inI at hnI hdI ⊢; omega), hy]; unfold sat; unfold inI at hnI; omega
                have n3 : 0 ≤ D := by omega
                clear hy hm hnI hdI
                go_upto_region 14 with fail
                go_region_held3 (fun y => y.cell? ⟨wr.heap.size, 2, none⟩ = some (.int .i64 G) ∧ y.cell? ⟨wr.heap.size, 3, none⟩ = some (.int .i64 D))
                  (first
                    | exact ⟨e2, e3⟩
                    | exact ⟨cellx E7.out rfl, cellx E7.out rfl⟩)
                  (first
                    | (go_at_call 16; refine (C6.out).mono ?_; rintro e w' ⟨rfl, rfl⟩))
                all_goals
                  clear C6 F6 w1 hwm hm0 e2 e3 r7 hn0 E7 hne
                  obtain ⟨nL, nW, mm, hmI, hnb, A9, LE⟩ := F7.out.fin (by omega)
                  have HA9 := hid A9
                  have HLE := hid LE
                  clear A9 LE
                  go_wp2_with fail
                  refine (HA9.out).mono ?_
                  rintro e w9 ⟨rfl, b9⟩
                  obtain ⟨l1, l2⟩ := HLE.out w9 b9
                  have F9 := hid (F7.out.below b9)
                  have B9 := F9.out.ss.bl
                  clear b9 HA9 HLE F7
                  go_wp2
                  go_roundw
                  case rel => exact ⟨k + 1, _, _, _, _, _, _, _, by omega, by go_num, F9, B9⟩
                  case measure => simp [intOf]; omega
            · have F6 := hid (FA.out.step o6 (by have := LN.out; omega) NW.out)
              have HC := hid hc
              have hcb : (c == 0) = false := by simpa using hc
              clear hc o6 A6 FA E6 k1 EB hq0 hq1 hq2 hq3 hq4
              obtain ⟨nL, nW, mm, hmI, hnb, A9, LE⟩ := F6.out.fin (by omega)
              have HA9 := hid A9
              have HLE := hid LE
              clear A9 LE
              go_wp2_with fail
              refine (HA9.out).mono ?_
              rintro e w9 ⟨rfl, b9⟩
              obtain ⟨l1, l2⟩ := HLE.out w9 b9
              have F9 := hid (F6.out.below b9)
              have B9 := F9.out.ss.bl
              clear b9 HA9 HLE F6
              go_wp2
              go_roundw
              case rel => exact ⟨k + 1, _, _, _, _, _, _, _, by omega, by go_num, F9, B9⟩
              case measure => simp [intOf]; omega
        · as_aux_lemma =>
            have A6 := hid (waitP FA.out.ss.sq (by have := LN.out; omega) fd G)
            go_wp2_with fail
            refine (A6.out).mono ?_
            rintro e w6 ⟨is, c, W', rfl, o6, h6⟩
            have E6 := hid ((o6.1.block _ (al_lt wr _) (.inr rfl)).trans EB.out)
            have e2 : w6.cell? ⟨wr.heap.size, 2, none⟩ = some (.int .i64 G) := cellx E6.out rfl
            have e4 : w6.cell? ⟨wr.heap.size, 4, none⟩ = some (.int .u16 fd) := cellx E6.out rfl
            rcases h6 with ⟨rfl, _, rfl, _, hwg, hwf, _⟩ | ⟨hc, rfl, rfl⟩
            · have F6 := hid (FA.out.step o6 (by have := LN.out; simp; omega) NW.out)
              obtain ⟨w7, r7, p7⟩ := F6.out.putO hwg hwf
              have F7 := hid p7
              clear p7 o6 hwg hwf A6 FA E6 EB F6 hq0 hq1 hq2 hq3 hq4
              obtain ⟨nL, nW, mm, hmI, hnb, A9, LE⟩ := F7.out.fin (by omega)
              have HA9 := hid A9
              have HLE := hid LE
              clear A9 LE
              go_wp2_with fail
              refine (HA9.out).mono ?_
              rintro e w9 ⟨rfl, b9⟩
              obtain ⟨l1, l2⟩ := HLE.out w9 b9
              have F9 := hid (F7.out.below b9)
              have B9 := F9.out.ss.bl
              clear b9 HA9 HLE F7
              go_wp2
              go_roundw
              case rel => exact ⟨k + 1, _, _, _, _, _, _, _, by omega, by go_num, F9, B9⟩
              case measure => simp [intOf]; omega
            · have F6 := hid (FA.out.step o6 (by have := LN.out; omega) NW.out)
              have HC := hid hc
              have hcb : (c == 0) = false := by simpa using hc
              clear hc o6 A6 FA E6 EB hq0 hq1 hq2 hq3 hq4
              obtain ⟨nL, nW, mm, hmI, hnb, A9, LE⟩ := F6.out.fin (by omega)
              have HA9 := hid A9
              have HLE := hid LE
              clear A9 LE
              go_wp2_with fail
              refine (HA9.out).mono ?_
              rintro e w9 ⟨rfl, b9⟩
              obtain ⟨l1, l2⟩ := HLE.out w9 b9
              have F9 := hid (F6.out.below b9)
              have B9 := F9.out.ss.bl
              clear b9 HA9 HLE F6
              go_wp2
              go_roundw
              case rel => exact ⟨k + 1, _, _, _, _, _, _, _, by omega, by go_num, F9, B9⟩
              case measure => simp [intOf]; omega
        · as_aux_lemma =>
            have A6 := hid (stick FA.out.ss.sq D ID.out _ rfl)
            go_wp2_with fail
            refine (A6.out).mono ?_
            rintro e w6 ⟨rfl, o6⟩
            have F6 := hid (FA.out.step o6 (by have := LN.out; omega) (by have := NW.out; unfold sat; omega))
            clear o6 A6 FA EB hq0 hq1 hq2 hq3 hq4
            obtain ⟨nL, nW, mm, hmI, hnb, A9, LE⟩ := F6.out.fin (by omega)
            have HA9 := hid A9
            have HLE := hid LE
            clear A9 LE
            go_wp2_with fail
            refine (HA9.out).mono ?_
            rintro e w9 ⟨rfl, b9⟩
            obtain ⟨l1, l2⟩ := HLE.out w9 b9
            have F9 := hid (F6.out.below b9)
            have B9 := F9.out.ss.bl
            clear b9 HA9 HLE F6
            go_wp2
            go_roundw
            case rel => exact ⟨k + 1, _, _, _, _, _, _, _, by omega, by go_num, F9, B9⟩
            case measure => simp [intOf]; omega
        · as_aux_lemma =>
            have A6 := hid (readyP FA.out.ss.sq (by have := LN.out; omega) fd)
            go_wp2_with fail
            refine (A6.out).mono ?_
            rintro e w6 ⟨rfl, o6⟩
            have E6 := hid ((o6.1.block _ (al_lt wr _) (.inr rfl)).trans EB.out)
            have e4 : w6.cell? ⟨wr.heap.size, 4, none⟩ = some (.int .u16 fd) := cellx E6.out rfl
            have F6 := hid (FA.out.step o6 (by have := LN.out; have := addR_len R fd; omega) NW.out)
            obtain ⟨w7, r7, p7⟩ := F6.out.putR (fd := fd)
            have F7 := hid p7
            clear p7 o6 A6 FA E6 EB F6 hq0 hq1 hq2 hq3 hq4
            obtain ⟨nL, nW, mm, hmI, hnb, A9, LE⟩ := F7.out.fin (by omega)
            have HA9 := hid A9
            have HLE := hid LE
            clear A9 LE
            go_wp2_with fail
            refine (HA9.out).mono ?_
            rintro e w9 ⟨rfl, b9⟩
            obtain ⟨l1, l2⟩ := HLE.out w9 b9
            have F9 := hid (F7.out.below b9)
            have B9 := F9.out.ss.bl
            clear b9 HA9 HLE F7
            go_wp2
            go_roundw
            case rel => exact ⟨k + 1, _, _, _, _, _, _, _, by omega, by go_num, F9, B9⟩
            case measure => simp [intOf]; omega
        · as_aux_lemma =>
            rcases hd : dueL L now with _ | _
            · rcases ha : anyDue W R with _ | _
              · have A6 := hid (stake_n FA.out.ss.sq hd ha)
                clear hd ha
                go_wp2_with fail
                refine (A6.out).mono ?_
                rintro e w6 ⟨rfl, b6⟩
                have F6 := hid (FA.out.below b6).more
                have B6 := F6.out.ss.bl
                clear b6 A6 FA EB hq0 hq1 hq2 hq3 hq4
                go_wp2
                go_roundw
                case rel => exact ⟨k + 1, _, _, _, _, _, _, _, by omega, by go_num, F6, B6⟩
                case measure => simp [intOf]; omega
              · have A6 := hid (stake_p FA.out.ss.sq hd ha (by have := LN.out; omega))
                clear hd ha
                go_wp2_with fail
                refine (A6.out).mono ?_
                rintro e w6 ⟨m, y, rfl, hm, hmr, _, o6⟩
                have hh : hasG L y = false := by
                  rcases h : hasG L y with _ | _
                  · rfl
                  · have := FA.out.ss.sq.dis y h; rw [waitsG_yes hm] at this; cases this
                have hw2 := waitsG_drop FA.out.nd.2.2.1 hm
                have F6 := hid (FA.out.step o6 (by have := LN.out; have := List.length_filter_le (fun e : Int × Int => !(e.1 == m)) W; have := List.length_filter_le (fun a => !(a == m)) R; omega) NW.out)
                have u1 := F6.out.noU hh
                have u2 := F6.out.yesO hm
                have u3 := F6.out.yesR hmr
                have OU := hid (sout F6.out.ss.sq y false (by rw [hh, hw2]; rfl))
                obtain ⟨w7, r7, p7⟩ := F6.out.delU0 hh
                obtain ⟨w8, r8, p8⟩ := p7.delO hm
                obtain ⟨w9', r9, p9⟩ := p8.delR hmr
                have F7 := hid p9
                clear hm hmr hh hw2 o6 p7 p8 p9 A6 FA EB F6 hq0 hq1 hq2 hq3 hq4
                go_wp2_with fail
                refine (OU.out).mono ?_
                rintro e w' ⟨rfl, rfl⟩
                clear OU
                obtain ⟨nL, nW, mm, hmI, hnb, A9, LE⟩ := F7.out.fin (by omega)
                have HA9 := hid A9
                have HLE := hid LE
                clear A9 LE
                go_wp2_with fail
                refine (HA9.out).mono ?_
                rintro e w9 ⟨rfl, b9⟩
                obtain ⟨l1, l2⟩ := HLE.out w9 b9
                have F9 := hid (F7.out.below b9)
                have B9 := F9.out.ss.bl
                clear b9 HA9 HLE F7
                go_wp2
                go_roundw
                case rel => exact ⟨k + 1, _, _, _, _, _, _, _, by omega, by go_num, F9, B9⟩
                case measure => simp [intOf]; omega
            · rcases hL : L with _ | ⟨⟨x1, x2, x3⟩, l⟩
              · rw [hL] at hd; cases hd
              · subst hL
                have hx : x1 ≤ now := of_decide_eq_true hd
                have A6 := hid (stake_t FA.out.ss.sq hx)
                clear hd
                go_wp2_with fail
                refine (A6.out).mono ?_
                rintro e w6 ⟨rfl, es6, o6⟩
                have hw := FA.out.ss.sq.dis x3 hasG_head
                have hl3 := hasG_tail FA.out.nd.1
                have F6 := hid (FA.out.step o6 (by have := LN.out; simp at this; omega) NW.out)
                have u1 := F6.out.yesU (e := (x1, x2, x3)) List.mem_cons_self
                have u2 := F6.out.noO hw
                have CN := hid (snow F6.out.ss.sq)
                have OU := hid (sout F6.out.ss.sq x3 false (by rw [hl3, hw]; rfl))
                obtain ⟨w7, r7, p7⟩ := F6.out.delU
                obtain ⟨w8, r8, p8⟩ := p7.delO0 hw
                have F7 := hid p8
                have d1 : decide (now < x1) = false := decide_eq_false (by omega)
                clear hw hl3 o6 p7 p8 A6 FA EB F6 hq0 hq1 hq2 hq3 hq4
                go_wp2_with fail
                refine (CN.out).mono ?_
                rintro e w' ⟨rfl, rfl⟩
                go_wp2_with fail
                refine (OU.out).mono ?_
                rintro e w' ⟨rfl, rfl⟩
                clear OU CN
                obtain ⟨nL, nW, mm, hmI, hnb, A9, LE⟩ := F7.out.fin (by omega)
                have HA9 := hid A9
                have HLE := hid LE
                clear A9 LE
                go_wp2_with fail
                refine (HA9.out).mono ?_
                rintro e w9 ⟨rfl, b9⟩
                obtain ⟨l1, l2⟩ := HLE.out w9 b9
                have F9 := hid (F7.out.below b9)
                have B9 := F9.out.ss.bl
                clear b9 HA9 HLE F7
                go_wp2
                go_roundw
                case rel => exact ⟨k + 1, _, _, _, _, _, _, _, by omega, by go_num, F9, B9⟩
                case measure => simp [intOf]; omega
        · as_aux_lemma =>
            rcases hd : dueL L now with _ | _
            · rcases ha : anyDue W R with _ | _
              · have A6 := hid (stake_n FA.out.ss.sq hd ha)
                clear hd ha
                go_wp2_with fail
                refine (A6.out).mono ?_
                rintro e w6 ⟨rfl, b6⟩
                have F6 := hid (FA.out.below b6).more
                have B6 := F6.out.ss.bl
                clear b6 A6 FA EB hq0 hq1 hq2 hq3 hq4
                go_wp2
                go_roundw
                case rel => exact ⟨k + 1, _, _, _, _, _, _, _, by omega, by go_num, F6, B6⟩
                case measure => simp [intOf]; omega
              · have A6 := hid (stake_p FA.out.ss.sq hd ha (by have := LN.out; omega))
                clear hd ha
                go_wp2_with fail
                refine (A6.out).mono ?_
                rintro e w6 ⟨m, y, rfl, hm, hmr, _, o6⟩
                have hh : hasG L y = false := by
                  rcases h : hasG L y with _ | _
                  · rfl
                  · have := FA.out.ss.sq.dis y h; rw [waitsG_yes hm] at this; cases this
                have hw2 := waitsG_drop FA.out.nd.2.2.1 hm
                have F6 := hid (FA.out.step o6 (by have := LN.out; have := List.length_filter_le (fun e : Int × Int => !(e.1 == m)) W; have := List.length_filter_le (fun a => !(a == m)) R; omega) NW.out)
                have u1 := F6.out.noU hh
                have u2 := F6.out.yesO hm
                have u3 := F6.out.yesR hmr
                have OU := hid (sout F6.out.ss.sq y false (by rw [hh, hw2]; rfl))
                obtain ⟨w7, r7, p7⟩ := F6.out.delU0 hh
                obtain ⟨w8, r8, p8⟩ := p7.delO hm
                obtain ⟨w9', r9, p9⟩ := p8.delR hmr
                have F7 := hid p9
                clear hm hmr hh hw2 o6 p7 p8 p9 A6 FA EB F6 hq0 hq1 hq2 hq3 hq4
                go_wp2_with fail
                refine (OU.out).mono ?_
                rintro e w' ⟨rfl, rfl⟩
                clear OU
                obtain ⟨nL, nW, mm, hmI, hnb, A9, LE⟩ := F7.out.fin (by omega)
                have HA9 := hid A9
                have HLE := hid LE
                clear A9 LE
                go_wp2_with fail
                refine (HA9.out).mono ?_
                rintro e w9 ⟨rfl, b9⟩
                obtain ⟨l1, l2⟩ := HLE.out w9 b9
                have F9 := hid (F7.out.below b9)
                have B9 := F9.out.ss.bl
                clear b9 HA9 HLE F7
                go_wp2
                go_roundw
                case rel => exact ⟨k + 1, _, _, _, _, _, _, _, by omega, by go_num, F9, B9⟩
                case measure => simp [intOf]; omega
            · rcases hL : L with _ | ⟨⟨x1, x2, x3⟩, l⟩
              · rw [hL] at hd; cases hd
              · subst hL
                have hx : x1 ≤ now := of_decide_eq_true hd
                have A6 := hid (stake_t FA.out.ss.sq hx)
                clear hd
                go_wp2_with fail
                refine (A6.out).mono ?_
                rintro e w6 ⟨rfl, es6, o6⟩
                have hw := FA.out.ss.sq.dis x3 hasG_head
                have hl3 := hasG_tail FA.out.nd.1
                have F6 := hid (FA.out.step o6 (by have := LN.out; simp at this; omega) NW.out)
                have u1 := F6.out.yesU (e := (x1, x2, x3)) List.mem_cons_self
                have u2 := F6.out.noO hw
                have CN := hid (snow F6.out.ss.sq)
                have OU := hid (sout F6.out.ss.sq x3 false (by rw [hl3, hw]; rfl))
                obtain ⟨w7, r7, p7⟩ := F6.out.delU
                obtain ⟨w8, r8, p8⟩ := p7.delO0 hw
                have F7 := hid p8
                have d1 : decide (now < x1) = false := decide_eq_false (by omega)
                clear hw hl3 o6 p7 p8 A6 FA EB F6 hq0 hq1 hq2 hq3 hq4
                go_wp2_with fail
                refine (CN.out).mono ?_
                rintro e w' ⟨rfl, rfl⟩
                go_wp2_with fail
                refine (OU.out).mono ?_
                rintro e w' ⟨rfl, rfl⟩
                clear OU CN
                obtain ⟨nL, nW, mm, hmI, hnb, A9, LE⟩ := F7.out.fin (by omega)
                have HA9 := hid A9
                have HLE := hid LE
                clear A9 LE
                go_wp2_with fail
                refine (HA9.out).mono ?_
                rintro e w9 ⟨rfl, b9⟩
                obtain ⟨l1, l2⟩ := HLE.out w9 b9
                have F9 := hid (F7.out.below b9)
                have B9 := F9.out.ss.bl
                clear b9 HA9 HLE F7
                go_wp2
                go_roundw
                case rel => exact ⟨k + 1, _, _, _, _, _, _, _, by omega, by go_num, F9, B9⟩
                case measure => simp [intOf]; omega
        · as_aux_lemma =>
            have F6 := hid FA.out.more
            clear FA EB
            obtain ⟨nL, nW, mm, hmI, hnb, A9, LE⟩ := F6.out.fin (by omega)
            have HA9 := hid A9
            have HLE := hid LE
            clear A9 LE
            go_wp2_with fail
            refine (HA9.out).mono ?_
            rintro e w9 ⟨rfl, b9⟩
            obtain ⟨l1, l2⟩ := HLE.out w9 b9
            have F9 := hid (F6.out.below b9)
            have B9 := F9.out.ss.bl
            clear b9 HA9 HLE F6
            go_wp2
            go_roundw
            case rel => exact ⟨k + 1, _, _, _, _, _, _, _, by omega, by go_num, F9, B9⟩
            case measure => simp [intOf]; omega
      · have B2 := hid F.out.ss.bl
        clear F hbr
        go_wp2
        go_ret
        exact ⟨rfl, B2.out⟩
end Go.Proofs.Ytoljicfpphnlcaa.sourceOnce
