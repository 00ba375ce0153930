/- The walk of the statement ModelBounds: the law answers true and turns nothing that was there. -/
import Derived.Test.YtgfamjbpdomjfaaDoorLives17
import Derived.Test.YtgfamjbpdomjfaaDoorModB
import Derived.Test.YtgfamjbpdomjfaaDoorStructs
import Derived.Deep.CutRange
import Derived.Deep.CutBlock
namespace Go.Proofs.YtgfamjbpdomjfaaDoor.modelBounds
open Go.RowKit
set_option linter.unusedVariables false
set_option linter.unusedSimpArgs false

theorem undM : Tryd.prog.underlying 54 = some (.map 3 3) := by kernel_rfl
theorem zeroM (w : World) : (zeroValue 3).run Tryd.prog w = .ok (.int .i64 0) w := by kernel_rfl
theorem mkM (w : World) : (Instr.makeMap 54 none).run Tryd.prog w = .ok (.map (some w.heap.size)) (w.alloc (.map #[] 0)) := rfl
/-- A map in which just these numbers have one. -/
def Cm (w : World) (b : Nat) (l : List Int) : Prop := ∃ g, MapI w b .i64 g l.length ∧ ∀ a, g a = if a ∈ l then some (.int .i64 1) else none
theorem Cm.new (w : World) : Cm (w.alloc (.map #[] 0)) w.heap.size [] := ⟨_, MapI.new w .i64, fun a => by simp⟩
theorem Cm.lt {w : World} {b : Nat} {l : List Int} (h : Cm w b l) : b < w.heap.size := by obtain ⟨g, h1, _⟩ := h; exact h1.lt
theorem Cm.kept {w w' : World} {b : Nat} {l : List Int} (h : Cm w b l) (e : w'.heap[b]? = w.heap[b]?) : Cm w' b l := by obtain ⟨g, h1, h2⟩ := h; exact ⟨g, h1.kept e, h2⟩
theorem Cm.miss {w : World} {b : Nat} {l : List Int} (h : Cm w b l) {a : Int} (ha : a ∉ l) : (Instr.lookup 54 (.map (some b)) (.int .i64 a) false).run Tryd.prog w = .ok (.int .i64 0) w := by
  obtain ⟨g, h1, h2⟩ := h
  exact h1.look_miss undM undI zeroM (by rw [h2, if_neg ha]) false
theorem Cm.hit {w : World} {b : Nat} {l : List Int} (h : Cm w b l) {a : Int} (ha : a ∈ l) : (Instr.lookup 54 (.map (some b)) (.int .i64 a) false).run Tryd.prog w = .ok (.int .i64 1) w := by
  obtain ⟨g, h1, h2⟩ := h
  exact h1.look_hit undM undI (by rw [h2, if_pos ha]) false
theorem Cm.len {w : World} {b : Nat} {l : List Int} (h : Cm w b l) (ty : TypeId) : (Builtin.len_ #[54] ty #[.map (some b)]).run Tryd.prog w = .ok (.int .i64 l.length) w := by
  obtain ⟨g, h1, h2⟩ := h
  exact h1.len undM ty
theorem Cm.put {w : World} {b : Nat} {l : List Int} (h : Cm w b l) {a : Int} (ha : a ∉ l) : ∃ w', (Instr.mapUpdate 54 (.map (some b)) (.int .i64 a) (.int .i64 1)).run Tryd.prog w = .ok () w' ∧ Cm w' b (l ++ [a]) ∧ Only b b w w' := by
  obtain ⟨g, h1, h2⟩ := h
  obtain ⟨w', r, m, o⟩ := h1.store undM undI a (.int .i64 1)
  rw [if_pos (by rw [h2, if_neg ha])] at m
  refine ⟨w', r, ⟨_, by rw [List.length_append, List.length_singleton]; exact m, fun c => ?_⟩, o⟩
  simp only [updG]
  by_cases hc : c = a
  · subst hc; simp
  · rw [if_neg hc, h2]
    simp [hc]
theorem stat {w : World} {lo hi b : Nat} {s : Ms} (h : Mdl w lo hi b s) (a : Int) : Calls Tryd.prog 10 #[.pointer (some ⟨b, 0, none⟩), .int .i64 a] w fun e w' => e = .returned (.int .u64 (s.st a)) ∧ w' = w := by
  obtain ⟨b1, b2, b3, h1, _⟩ := h
  exact mstatus h1 a
theorem runn {w : World} {lo hi b : Nat} {s : Ms} (h : Mdl w lo hi b s) : Calls Tryd.prog 11 #[.pointer (some ⟨b, 0, none⟩)] w fun e w' => e = .returned (.int .i64 s.nr) ∧ w' = w := by
  obtain ⟨b1, b2, b3, h1, _⟩ := h
  exact mrunning h1
theorem runs {w : World} {lo hi b : Nat} {s : Ms} (h : Mdl w lo hi b s) (a : Int) : Calls Tryd.prog 15 #[.pointer (some ⟨b, 0, none⟩), .int .i64 a] w fun e w' => e = .returned (runsV (s.ru a)) ∧ Below w.heap.size w w' := by
  obtain ⟨b1, b2, b3, h1, _⟩ := h
  exact mruns h1 a
/-- What stands between two events. -/
structure Mk (w : World) (hi b : Nat) (s : Ms) (wr : World) : Prop where
  hm : Mdl wr w.heap.size hi b s
  bl : Below w.heap.size w wr
  hs : hi ≤ wr.heap.size
  ws : w.heap.size ≤ hi
/-- .. and within the looks at the first i machines. -/
structure Bd (w : World) (hi b : Nat) (s : Ms) (bs bo : Nat) (i : Nat) (wr : World) : Prop where
  k : Mk w hi b s wr
  c1 : Cm wr bs (gl Prod.fst s.ru i)
  c2 : Cm wr bo (gl Prod.snd s.ru i)
  h1 : hi ≤ bs
  h2 : hi ≤ bo
  ne : bs ≠ bo
variable {w wr w' : World} {hi b bs bo i : Nat} {s s' : Ms}
theorem Mk.below (h : Mk w hi b s wr) (hb : Below wr.heap.size wr w') : Mk w hi b s w' := ⟨h.hm.below hb, h.bl.trans (hb.mono h.bl.size), Nat.le_trans h.hs hb.size, h.ws⟩
theorem Mk.add (h : Mk w hi b s wr) (hm : Mdl w' w.heap.size hi b s') (ho : OM w.heap.size hi wr w') : Mk w hi b s' w' := ⟨hm, h.bl.trans (ho.below (Nat.le_refl _) h.bl.size), Nat.le_trans h.hs ho.size, h.ws⟩
theorem Mk.only {c : Nat} (h : Mk w hi b s wr) (ho : Only c c wr w') (hc : hi ≤ c) : Mk w hi b s w' := by
  have hws := h.ws
  have o : OM hi (c + 1) wr w' := ⟨ho.os, ho.tape, ho.output, ho.size, fun k hk hn => ho.block k hk (by omega) (by omega)⟩
  exact ⟨h.hm.other o (.inl (Nat.le_refl _)), h.bl.trans (o.below hws h.bl.size), Nat.le_trans h.hs ho.size, h.ws⟩
theorem Bd.below (h : Bd w hi b s bs bo i wr) (hb : Below wr.heap.size wr w') : Bd w hi b s bs bo i w' := ⟨h.k.below hb, h.c1.kept (hb.block _ h.c1.lt), h.c2.kept (hb.block _ h.c2.lt), h.h1, h.h2, h.ne⟩
theorem Bd.none (h : Bd w hi b s bs bo i wr) (hr : s.ru i = none) : Bd w hi b s bs bo (i + 1) wr := ⟨h.k, by rw [gl_none hr]; exact h.c1, by rw [gl_none hr]; exact h.c2, h.h1, h.h2, h.ne⟩
theorem Mk.bd (h : Mk w hi b s wr) : Bd w hi b s wr.heap.size (wr.heap.size + 1) 0 ((wr.alloc (.map #[] 0)).alloc (.map #[] 0)) := by
  have hb := (bl_ad wr (.map #[] 0)).trans ((bl_ad _ (.map #[] 0)).mono (by simp))
  have hs := h.hs
  refine ⟨h.below hb, (Cm.new wr).kept (Below.heap_alloc _ _ _ (by simp)), ?_, hs, by omega, by omega⟩
  have := Cm.new (wr.alloc (.map #[] 0))
  rw [World.size_alloc] at this
  exact this
set_option maxRecDepth 100000 in
set_option maxHeartbeats 16000000 in
theorem walk (a0 a1 : Int) (a2 : Option Addr) (len2 cap2 : Nat) (z2 : Nat → Nat → Int) (w : World) (w0 : (Lit.int .u8 a0).wf = true) (w1 : (Lit.int .u8 a1).wf = true) (w2 : IsStructs [.i64, .i64, .i64, .i64, .i64] w a2 len2 cap2 z2) (T2 : EvNames w) (T3 : EvSteps w) :
    Calls Tryd.prog 5 #[.int .u8 a0, .int .u8 a1, .slice a2 len2 cap2] w fun e w' => e = .returned (.bool true) ∧ Below w.heap.size w w' := by
  have TN := hid T2
  have TS := hid T3
  clear T2 T3
  have hb0 := bounds_u8 w0
  have hb1 := bounds_u8 w1
  clear w0 w1
  by_cases hlen : (60 : Int) < len2
  · go_enter Tryd.func5, Tryd.ntmps5
    go_wp2_with fail
    refine (lives17 _ TN.out TS.out).mono ?_
    rintro e w2 ⟨rfl, hb1⟩
    have HB1 := hid hb1
    clear hb1
    go_wp2_with fail
    refine (lives17 _ (TN.out.at HB1.out) (TS.out.at HB1.out)).mono ?_
    rintro e w3 ⟨rfl, hb2⟩
    go_wp2
    go_ret
    exact ⟨rfl, HB1.out.trans (hb2.mono HB1.out.size)⟩
  · have hlen' : len2 ≤ 60 := by omega
    have W0 := hid w2
    clear w2 hlen
    obtain ⟨P, hP⟩ : ∃ P : Nat, (P : Int) = a0 % 5 := ⟨(a0 % 5).toNat, by omega⟩
    obtain ⟨K, hK⟩ : ∃ K : Nat, (K : Int) = a1 % 6 := ⟨(a1 % 6).toNat, by omega⟩
    have hP5 : P ≤ 4 := by omega
    have hK6 : K ≤ 5 := by omega
    have p0 : a0.tmod 5 = P := by rw [Int.tmod_eq_emod_of_nonneg (by omega), hP]
    have p1 : IntKind.u8.wrap (P : Int) = P := IntWalk.u8_in _ (by omega)
    have p2 : IntKind.i64.wrap (P : Int) = P := IntWalk.i64_in _ (by omega)
    have p3 : a0 % 5 = P := hP.symm
    have q0 : a1.tmod 6 = K := by rw [Int.tmod_eq_emod_of_nonneg (by omega), hK]
    have q1 : IntKind.u8.wrap (K : Int) = K := IntWalk.u8_in _ (by omega)
    have q2 : IntKind.i64.wrap (K : Int) = K := IntWalk.i64_in _ (by omega)
    have q3 : a1 % 6 = K := hK.symm
    clear hP hK
    go_enter Tryd.func5, Tryd.ntmps5
    go_wp2_with fail
    refine (lives17 _ TN.out TS.out).mono ?_
    rintro e w1 ⟨rfl, hb1⟩
    have B1 := hid hb1
    have NA := hid (mnew P K 8 w1 (by omega) (by omega) (by omega))
    have TN1 := hid (TN.out.at B1.out)
    have TS1 := hid (TS.out.at B1.out)
    clear hb1
    go_wp2_with fail
    refine (NA.out).mono ?_
    rintro e w2 ⟨pm, rfl, hm2, hb2⟩
    clear p0 p1 p2 p3 q0 q1 q2 q3 hb0
    obtain ⟨hi, hhi⟩ : ∃ x, x = w2.heap.size := ⟨_, rfl⟩
    have M2 : Hid (Mk w1 hi pm (newM P K 8) w2) := ⟨by rw [hhi]; exact hm2, hb2, by omega, by rw [hhi]; exact hb2.size⟩
    have I2 := hid (Inv.new K P)
    clear hm2 hb2 hhi NA
    go_wp2_with fail
    go_loopw [39] (fun i wr => ∃ (q : Nat) (s : Ms), q ≤ len2 ∧ i = .int .i64 q ∧ Hid (Inv K P s) ∧ Hid (Mk w1 hi pm s wr))
      (fun i _ => len2 - (intOf i).toNat)
    case atStart => exact ⟨0, _, by omega, rfl, I2, M2⟩
    case round =>
      clear M2 I2
      obtain ⟨q, s, hq, rfl, I, M⟩ := hrel
      by_cases hlt : q < len2
      · obtain ⟨bx, off, rfl, hcell⟩ := W0.out.open (by omega) (by simp)
        have HC := hid (hcell _ (B1.out.trans (M.out.bl.mono B1.out.size)) q hlt)
        have h0 := (HC.out 0 .i64 rfl).1
        have h1 := (HC.out 1 .i64 rfl).1
        have h2 := (HC.out 2 .i64 rfl).1
        have h3 := (HC.out 3 .i64 rfl).1
        have h4 := (HC.out 4 .i64 rfl).1
        simp only [List.length_cons, List.length_nil, Nat.reduceAdd, Nat.add_zero] at h0 h1 h2 h3 h4
        rw [← Nat.add_assoc] at h1 h2 h3 h4
        obtain ⟨k, hk⟩ : ∃ x, x = z2 q 0 := ⟨_, rfl⟩
        obtain ⟨g, hg⟩ : ∃ x, x = z2 q 1 := ⟨_, rfl⟩
        obtain ⟨m, hm⟩ : ∃ x, x = z2 q 2 := ⟨_, rfl⟩
        obtain ⟨p, hp⟩ : ∃ x, x = z2 q 3 := ⟨_, rfl⟩
        obtain ⟨v, hv⟩ : ∃ x, x = z2 q 4 := ⟨_, rfl⟩
        rw [← hk] at h0
        rw [← hg] at h1
        rw [← hm] at h2
        rw [← hp] at h3
        rw [← hv] at h4
        clear hk hg hm hp hv HC hcell
        have MA := hid (M.out.below (bl_ad wr (.cells #[.int .i64 k, .int .i64 g, .int .i64 m, .int .i64 p, .int .i64 v] 30)))
        have AD := hid (madd MA.out.hm MA.out.hs (TN1.out.at MA.out.bl) (TS1.out.at MA.out.bl) k g m p v)
        obtain ⟨s', hs'⟩ : ∃ s', s' = addM s k g m p v := ⟨_, rfl⟩
        have I' := hid (show Inv K P s' by rw [hs']; exact I.out.add k g m p v)
        unfold AddPost at AD
        rw [← hs'] at AD
        clear hs' I M
        go_wp2_with fail
        refine (AD.out).mono ?_
        rintro e w6 ⟨rfl, m6, o6⟩
        have M6 := hid (MA.out.add m6 o6)
        have k1 := mkM w6
        have k2 := mkM (w6.alloc (.map #[] 0))
        have D0 := hid (M6.out.bd)
        obtain ⟨bs, hbs⟩ : ∃ x, x = w6.heap.size := ⟨_, rfl⟩
        obtain ⟨bo, hbo⟩ : ∃ x, x = w6.heap.size + 1 := ⟨_, rfl⟩
        have HBB := hid (And.intro hbs hbo)
        rw [← hbo, ← hbs] at D0
        clear hbs hbo m6 o6 AD MA h0 h1 h2 h3 h4
        go_wp2_with fail
        rw [← HBB.out.2, ← HBB.out.1]
        clear k1 k2
        go_loopw [49] (fun i wy => ∃ (j : Nat), j ≤ K ∧ i = .int .i64 j ∧ Hid (Bd w1 hi pm s' bs bo j wy))
          (fun i _ => K - (intOf i).toNat)
        case atStart => exact ⟨0, by omega, rfl, D0⟩
        case round =>
          clear D0 M6 HBB
          obtain ⟨j, hj, rfl, D⟩ := hrel
          by_cases hjK : j < K
          · have RU := hid (runs D.out.k.hm j)
            rcases hr : s'.ru j with _ | ⟨x, y⟩
            · have D2 := hid (D.out.none hr)
              rw [hr] at RU
              unfold runsV at RU
              simp only [Option.getD_none, Option.isSome_none] at RU
              clear hr D
              go_wp2_with fail
              refine (RU.out).mono ?_
              rintro e w7 ⟨rfl, hb7⟩
              have D3 := hid (D2.out.below hb7)
              clear hb7 RU D2
              go_wp2
              go_roundw
              case rel => exact ⟨j + 1, by omega, by go_num, D3⟩
              case measure => simp [intOf]; omega
            · obtain ⟨_, ⟨y0, yP⟩, _, hst, _⟩ := I'.out.rng _ _ _ hr
              have NX := hid (gl_new I'.out.injg hr)
              have NY := hid (gl_new I'.out.injp hr)
              have GX := hid (gl_some (π := Prod.fst) hr)
              have GY := hid (gl_some (π := Prod.snd) hr)
              rw [hr] at RU
              unfold runsV at RU
              simp only [Option.getD_some, Option.isSome_some] at RU
              have d1 : decide (y < 0) = false := decide_eq_false (by omega)
              have d2 : decide ((P : Int) ≤ y) = false := decide_eq_false (by omega)
              clear hr
              go_wp2_with fail
              refine (RU.out).mono ?_
              rintro e w7 ⟨rfl, hb7⟩
              have D3 := hid (D.out.below hb7)
              clear hb7 RU D
              have L1 := D3.out.c1.miss NX.out
              obtain ⟨w8, r8, m8, o8⟩ := D3.out.c1.put NX.out
              have K8 := hid (D3.out.k.only o8 D3.out.h1)
              have C8 := hid (D3.out.c2.kept (o8.block _ D3.out.c2.lt (fun e => D3.out.ne e.symm) (fun e => D3.out.ne e.symm)))
              have L2 := C8.out.miss NY.out
              obtain ⟨w9, r9, m9, o9⟩ := C8.out.put NY.out
              have M8 := hid m8
              have D9 : Hid (Bd w1 hi pm s' bs bo (j + 1) w9) := ⟨K8.out.only o9 D3.out.h2, by rw [GX.out]; exact M8.out.kept (o9.block _ M8.out.lt D3.out.ne D3.out.ne), by rw [GY.out]; exact m9, D3.out.h1, D3.out.h2, D3.out.ne⟩
              have L3 := D9.out.c1.hit (a := x) (by rw [GX.out]; simp)
              have L4 := D9.out.c2.hit (a := y) (by rw [GY.out]; simp)
              have ST := hid (stat D9.out.k.hm x)
              rw [hst] at ST
              clear m8 o8 m9 o9 K8 C8 M8 D3 hst NX NY GX GY
              go_wp2_with fail
              refine (ST.out).mono ?_
              rintro e w10 ⟨rfl, rfl⟩
              clear ST
              go_wp2
              go_roundw
              case rel => exact ⟨j + 1, by omega, by go_num, D9⟩
              case measure => simp [intOf]; omega
          · obtain rfl : j = K := by omega
            have R0 := hid (show 0 = rn s'.st 0 from rfl)
            go_wp2_with fail
            go_loopw [18, 94] (fun r i wy => ∃ (t c : Nat), t ≤ 8 ∧ i = .int .i64 t ∧ r = .int .i64 c ∧ c ≤ t ∧ Hid (c = rn s'.st t) ∧ Hid (Bd w1 hi pm s' bs bo j wy))
              (fun _ i _ => 8 - (intOf i).toNat)
            case atStart => exact ⟨0, 0, by omega, rfl, rfl, by omega, R0, D⟩
            case round =>
              clear R0 D
              obtain ⟨t, c, ht, rfl, rfl, hc, R, D⟩ := hrel
              by_cases ht8 : t < 8
              · have ST := hid (stat D.out.k.hm t)
                obtain ⟨x, hx⟩ : ∃ x, x = s'.st t := ⟨_, rfl⟩
                rw [← hx] at ST
                have HX := hid hx
                clear hx
                by_cases h2 : x = 2
                · have t2 : (x == 2) = true := by simp [h2]
                  have R2 := hid (show c + 1 = rn s'.st (t + 1) by simp only [rn]; rw [if_pos (by rw [← HX.out]; exact h2), R.out])
                  clear h2
                  go_wp2_with fail
                  refine (ST.out).mono ?_
                  rintro e w8 ⟨rfl, rfl⟩
                  go_wp2
                  go_roundw
                  case rel => exact ⟨t + 1, c + 1, by omega, by go_num, by go_num, by omega, R2, D⟩
                  case measure => simp [intOf]; omega
                · have t2 : (x == 2) = false := by simpa using h2
                  have R2 := hid (show c = rn s'.st (t + 1) by simp only [rn]; rw [if_neg (by rw [← HX.out]; exact h2), R.out]; rfl)
                  clear h2
                  go_wp2_with fail
                  refine (ST.out).mono ?_
                  rintro e w8 ⟨rfl, rfl⟩
                  go_wp2
                  go_roundw
                  case rel => exact ⟨t + 1, c, by omega, by go_num, rfl, by omega, R2, D⟩
                  case measure => simp [intOf]; omega
              · have ht' : t = 8 := by omega
                have hcn : c = s'.nr := by rw [R.out, ht']; exact I'.out.cnt
                have cP : c ≤ P := by rw [hcn]; exact I'.out.leP
                have cK : c ≤ j := by rw [hcn]; exact I'.out.leK
                have RN := hid (runn D.out.k.hm)
                rw [← hcn] at RN
                have LN := D.out.c1.len
                rw [gl_len, ← I'.out.nr, ← hcn] at LN
                have cc : ((c : Int) != c) = false := by simp
                have d1 : decide (P < c) = false := decide_eq_false (by omega)
                have d2 : decide (j < c) = false := decide_eq_false (by omega)
                have M2 := hid D.out.k
                clear hcn ht' D R
                go_wp2_with fail
                refine (RN.out).mono ?_
                rintro e w8 ⟨rfl, rfl⟩
                clear RN LN
                go_wp2
                go_roundw
                case rel => exact ⟨q + 1, _, by omega, by go_num, I', M2⟩
                case measure => simp [intOf]; omega
      · have HF := hid (B1.out.trans (M.out.bl.mono B1.out.size))
        go_wp2
        go_ret
        exact ⟨rfl, HF.out⟩
end Go.Proofs.YtgfamjbpdomjfaaDoor.modelBounds
