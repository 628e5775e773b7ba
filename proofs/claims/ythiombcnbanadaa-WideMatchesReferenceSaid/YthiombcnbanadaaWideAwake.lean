/-
  The fixed examples of package wide, and the laws that need no reference implementation.
-/
import Derived.Test.YthiombcnbanadaaWideShift
import Derived.OpenShut
namespace Go.Proofs.Ythiombcnbanadaa
open Go.RowKit Go.Lib

theorem grown_trans {a b c : World} (h1 : Grown a b) (h2 : Grown b c) : Grown a c :=
  ⟨World.keptBut_trans h1.1 h2.1, fun a => (h2.2.1 a).trans (h1.2.1 a), Nat.le_trans h1.2.2 h2.2.2⟩
theorem i64_of {a : Int} (h : (Lit.int .i64 a).wf = true) : I64 a := by
  have := bounds_i64 h
  exact ⟨by omega, by omega⟩

theorem md_at (a b c v e : Int) (ha : I64 a) (hb : I64 b) (hc : I64 c) (h1 : mdv a b c = v) (h2 : mde a b c = e) (w : World) :
    Calls Try.prog 11 #[.int .i64 a, .int .i64 b, .int .i64 c] w fun e' w' => e' = .returned (.tuple #[.int .i64 v, .int .i64 e]) ∧ Grown w w' := by
  rw [← h1, ← h2]; exact muldiv_any a b c ha hb hc w
theorem ms_at (a b n v e : Int) (ha : I64 a) (hb : I64 b) (h1 : msv a b n = v) (h2 : mse a b n = e) (w : World) :
    Calls Try.prog 13 #[.int .i64 a, .int .i64 b, .int .i64 n] w fun e' w' => e' = .returned (.tuple #[.int .i64 v, .int .i64 e]) ∧ Grown w w' := by
  rw [← h1, ← h2]; exact mulshift_any a b n ha hb w
theorem mul_at (a b h l : Int) (ha : I64 a) (hb : I64 b) (h1 : a * b / 18446744073709551616 = h) (h2 : a * b % 18446744073709551616 = l) (w : World) :
    Calls Try.prog 9 #[.int .i64 a, .int .i64 b] w fun e' w' => e' = .returned (.tuple #[.int .i64 h, .int .u64 l]) ∧ Grown w w' := by
  rw [← h1, ← h2]; exact mul_any a b ha hb w
theorem less_at (a : Int) (b : Int) (c : Int) (d : Int) (r : Bool) (h : (decide (a < c) || (a == c && decide (b < d))) = r) (w : World) :
    Calls Try.prog 15 #[.int .i64 a, .int .u64 b, .int .i64 c, .int .u64 d] w fun e' w' => e' = .returned (.bool r) ∧ w = w' := by
  rw [← h]; exact less_any a c b d w

theorem ik (a : Int) (h1 : -9223372036854775808 ≤ a := by decide) (h2 : a < 9223372036854775808 := by decide) : I64 a := ⟨h1, h2⟩

set_option maxRecDepth 100000 in
set_option maxHeartbeats 2000000 in
theorem awake_any (w : World) : Calls Try.prog 8 #[] w fun e w' => e = .returned (.bool true) ∧ Grown w w' := by
  have c1 := fun w => md_at 7 5 (-2) (-18) 0 (ik _) (ik _) (ik _) (by decide) (by decide) w
  have c2 := fun w => mul_at 4611686018427387904 4 1 0 (ik _) (ik _) (by decide) (by decide) w
  have c3 := fun w => ms_at (-3) 1 1 (-2) 0 (ik _) (ik _) (by decide) (by decide) w
  have c4 := fun w => md_at 1 1 0 0 2 (ik _) (ik _) (ik _) (by decide) (by decide) w
  have c5 := fun w => md_at 4611686018427387904 4611686018427387904 2 0 3 (ik _) (ik _) (ik _) (by decide) (by decide) w
  have c6 := fun w => ms_at 1 1 64 0 1 (ik _) (ik _) (by decide) (by decide) w
  have c7 := fun w => less_at (-1) 5 0 0 true (by decide) w
  have c8 := fun w => less_at 0 5 0 5 false (by decide) w
  have C1 := Lib.hid c1; have C2 := Lib.hid c2; have C3 := Lib.hid c3; have C4 := Lib.hid c4; have C5 := Lib.hid c5; have C6 := Lib.hid c6; have C7 := Lib.hid c7; have C8 := Lib.hid c8
  clear c1 c2 c3 c4 c5 c6 c7 c8
  go_enter Try.func8, Try.ntmps8
  go_wp2_with (first
    | ((with_reducible refine (C1.out _).mono ?_); rintro e w1 ⟨rfl, g1⟩)
    | ((with_reducible refine (C2.out _).mono ?_); rintro e w2 ⟨rfl, g2⟩)
    | ((with_reducible refine (C3.out _).mono ?_); rintro e w3 ⟨rfl, g3⟩)
    | ((with_reducible refine (C4.out _).mono ?_); rintro e w4 ⟨rfl, g4⟩)
    | ((with_reducible refine (C5.out _).mono ?_); rintro e w5 ⟨rfl, g5⟩)
    | ((with_reducible refine (C6.out _).mono ?_); rintro e w6 ⟨rfl, g6⟩)
    | ((with_reducible refine (C7.out _).mono ?_); rintro e w' ⟨rfl, rfl⟩)
    | ((with_reducible refine (C8.out _).mono ?_); rintro e w' ⟨rfl, rfl⟩))
  go_ret
  exact ⟨rfl, grown_trans g1 (grown_trans g2 (grown_trans g3 (grown_trans g4 (grown_trans g5 g6))))⟩
end Go.Proofs.Ythiombcnbanadaa
