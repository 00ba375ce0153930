/- mach.Lock of whatever machine. -/
import Derived.Test.YtbplbdopnhnhdaaGreatDoorMach2
namespace Go.Proofs.YtbplbdopnhnhdaaGreatDoor
open Go.RowKit
set_option linter.unusedVariables false
set_option linter.unusedSimpArgs false
set_option maxRecDepth 20000
/-- A machine, cell by cell. -/
@[reducible] def machG (pl p g nx got tg i : Int) (sp inn : Bool) (rest : Value) (bk af ag s0 s1 s2 s3 s4 : Int) : Array Value := #[.int .i64 pl, .int .i64 p, .int .i64 g, .int .i64 nx, .int .i64 got, .int .i64 tg, .int .i64 i, .bool sp, .bool inn, rest, .int .i64 bk, .int .i64 af, .int .i64 ag, .int .i64 s0, .int .i64 s1, .int .i64 s2, .int .u64 s3, .int .i64 s4]
set_option maxHeartbeats 4000000 in
theorem mlock_g (k : Nat) (p g nx got tg i : Int) (sp inn : Bool) (ra : Option Addr) (rn rc : Nat) (bk af ag s0 s1 s2 s3 s4 : Int) (n : Int) (w : World) (T : MaPlaces w) (hk : k < 31) (hn : 1 ≤ n) (hn2 : n ≤ 4611686018427387904) (hi : i ≤ 9223372036854775807) :
    Calls Tryz.prog 59 #[.agg (machG k p g nx got tg i sp inn (.slice ra rn rc) bk af ag s0 s1 s2 s3 s4), .int .i64 n] w fun e w' => e = .returned (.int .i64 (lk (maPlace1 k) p i n)) ∧ Below w.heap.size w w' := by
  have hg := T.lt
  have c1 : w.cell? ⟨0, k * 2 + 1, none⟩ = some (.int .i64 (maPlace1 k)) := (T k hk).2
  have hb := hid ((Below.refl w.heap.size w).alloc (Nat.le_refl _) (.cells (machG k p g nx got tg i sp inn (.slice ra rn rc) bk af ag s0 s1 s2 s3 s4) 84))
  have hcl := maPlace1_le k hk
  generalize maPlace1 k = c at c1 hcl ⊢
  have h0 : (0 : Int) ≤ k := by omega
  have h31 : (k : Int) < 31 := by omega
  have hwn : IntKind.i64.wrap (n + 1) = n + 1 := IntWalk.i64_in _ (by omega)
  have LO := hid (fun r w => lockOf_any r n w hn2)
  have LA := hid (fun w => around_any p i n w hn hn2 hi)
  have MI := hid (fun w => mis_in k w hk)
  clear T
  rcases hcl with rfl | rfl | rfl | rfl | rfl | rfl
  · rw [show lk 0 p i n = (-1) from rfl]
    go_enter Tryz.func59, Tryz.ntmps59
    go_wp2_with fail
    refine (MI.out _).mono ?_
    rintro e w2 ⟨rfl, rfl⟩
    go_wp2
    go_ret
    exact ⟨rfl, hb.out⟩
  · rw [show lk 1 p i n = 0 from rfl]
    go_enter Tryz.func59, Tryz.ntmps59
    go_wp2_with fail
    refine (MI.out _).mono ?_
    rintro e w2 ⟨rfl, rfl⟩
    go_wp2
    go_ret
    exact ⟨rfl, hb.out⟩
  · rw [show lk 2 p i n = lkOf p n from rfl]
    go_enter Tryz.func59, Tryz.ntmps59
    go_wp2_with fail
    refine (MI.out _).mono ?_
    rintro e w2 ⟨rfl, rfl⟩
    go_wp2_with fail
    refine (LO.out p _).mono ?_
    rintro e w3 ⟨rfl, rfl⟩
    go_wp2
    go_ret
    exact ⟨rfl, hb.out⟩
  · rw [show lk 3 p i n = lkOf (lkAround p i n) n from rfl]
    go_enter Tryz.func59, Tryz.ntmps59
    go_wp2_with fail
    refine (MI.out _).mono ?_
    rintro e w2 ⟨rfl, rfl⟩
    go_wp2_with fail
    refine (LA.out _).mono ?_
    rintro e w4 ⟨rfl, rfl⟩
    go_wp2_with fail
    refine (LO.out (lkAround p i n) _).mono ?_
    rintro e w3 ⟨rfl, rfl⟩
    go_wp2
    go_ret
    exact ⟨rfl, hb.out⟩
  · rw [show lk 4 p i n = lkOf i n from rfl]
    go_enter Tryz.func59, Tryz.ntmps59
    go_wp2_with fail
    refine (MI.out _).mono ?_
    rintro e w2 ⟨rfl, rfl⟩
    go_wp2_with fail
    refine (LO.out i _).mono ?_
    rintro e w3 ⟨rfl, rfl⟩
    go_wp2
    go_ret
    exact ⟨rfl, hb.out⟩
  · rw [show lk 5 p i n = n + 1 from rfl]
    go_enter Tryz.func59, Tryz.ntmps59
    go_wp2_with fail
    refine (MI.out _).mono ?_
    rintro e w2 ⟨rfl, rfl⟩
    go_wp2
    go_ret
    exact ⟨rfl, hb.out⟩
end Go.Proofs.YtbplbdopnhnhdaaGreatDoor
