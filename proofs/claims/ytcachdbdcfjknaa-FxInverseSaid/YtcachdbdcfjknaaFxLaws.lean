/-
  The fixed examples of package fx, and the walks of its laws.
-/
import Derived.Test.YtcachdbdcfjknaaFxRef
namespace Go.Proofs.Ytcachdbdcfjknaa
open Go.RowKit Go.Lib

theorem grown_trans {a b c : World} (h1 : Grown a b) (h2 : Grown b c) : Grown a c :=
  ⟨World.keptBut_trans h1.1 h2.1, fun a => (h2.2.1 a).trans (h1.2.1 a), Nat.le_trans h1.2.2 h2.2.2⟩
theorem i64_of {a : Int} (h : (Lit.int .i64 a).wf = true) : I64 a := by
  have := bounds_i64 h
  exact ⟨by omega, by omega⟩
theorem i32_of {a : Int} (h : (Lit.int .i32 a).wf = true) : I32 a := by
  have := bounds_i32 h
  exact ⟨by omega, by omega⟩

abbrev Div2 (a b q e : Int) : Prop := ∀ w, Calls Try.prog 9 #[.int .i32 a, .int .i32 b] w fun e' w' => e' = .returned (.tuple #[.int .i32 q, .int .i64 e]) ∧ Grown w w'
abbrev Add2 (a b q : Int) : Prop := ∀ w, Calls Try.prog 20 #[.int .i32 a, .int .i32 b] w fun e' w' => e' = .returned (.int .i32 q) ∧ Grown w w'
abbrev Sub2 (a b q : Int) : Prop := ∀ w, Calls Try.prog 21 #[.int .i32 a, .int .i32 b] w fun e' w' => e' = .returned (.int .i32 q) ∧ Grown w w'
abbrev Mul2 (a b q : Int) : Prop := ∀ w, Calls Try.prog 11 #[.int .i32 a, .int .i32 b] w fun e' w' => e' = .returned (.int .i32 q) ∧ Grown w w'
abbrev Neg1 (a q : Int) : Prop := ∀ w, Calls Try.prog 22 #[.int .i32 a] w fun e' w' => e' = .returned (.int .i32 q) ∧ Grown w w'
abbrev Abs1 (a q : Int) : Prop := ∀ w, Calls Try.prog 23 #[.int .i32 a] w fun e' w' => e' = .returned (.int .i32 q) ∧ Grown w w'
abbrev Sat1 (a q : Int) : Prop := ∀ w, Calls Try.prog 13 #[.int .i64 a] w fun e' w' => e' = .returned (.int .i32 q) ∧ w = w'
abbrev Fro1 (a q : Int) : Prop := ∀ w, Calls Try.prog 15 #[.int .i64 a] w fun e' w' => e' = .returned (.int .i32 q) ∧ w = w'
abbrev Flo1 (a q : Int) : Prop := ∀ w, Calls Try.prog 24 #[.int .i32 a] w fun e' w' => e' = .returned (.int .i32 q) ∧ w = w'
abbrev Fra1 (a q : Int) : Prop := ∀ w, Calls Try.prog 25 #[.int .i32 a] w fun e' w' => e' = .returned (.int .i32 q) ∧ w = w'
abbrev Lim2 (n l q : Int) : Prop := ∀ w, Calls Try.prog 17 #[.int .i64 n, .int .i64 l] w fun e' w' => e' = .returned (.tuple #[.int .i64 q, .bool (q != n)]) ∧ w = w'

theorem div2 {a b q e : Int} (ha : I32 a) (hb : I32 b) (h1 : dq a b = q) (h2 : de b = e) : Div2 a b q e := fun w => by rw [← h1, ← h2]; exact div_any a b ha hb w
theorem add2 {a b q : Int} (ha : I32 a) (hb : I32 b) (h : sat (a + b) = q) : Add2 a b q := fun w => by rw [← h]; exact add_any a b ha hb w
theorem sub2 {a b q : Int} (ha : I32 a) (hb : I32 b) (h : sat (a - b) = q) : Sub2 a b q := fun w => by rw [← h]; exact sub_any a b ha hb w
theorem mul2 {a b q : Int} (ha : I32 a) (hb : I32 b) (h : sat (a * b / 65536) = q) : Mul2 a b q := fun w => by rw [← h]; exact mul_any a b ha hb w
theorem neg1 {a q : Int} (ha : I32 a) (h : sat (-a) = q) : Neg1 a q := fun w => by rw [← h]; exact neg_any a ha w
theorem abs1 {a q : Int} (ha : I32 a) (h : max a (sat (-a)) = q) : Abs1 a q := fun w => by rw [← h]; exact abs_any a ha w
theorem sat1 {a q : Int} (ha : I64 a) (h : sat a = q) : Sat1 a q := fun w => by rw [← h]; exact saturate_any a ha w
theorem fro1 {a q : Int} (ha : I64 a) (h : sat (a * 65536) = q) : Fro1 a q := fun w => by rw [← h]; exact fromint_any a ha w
theorem flo1 {a q : Int} (ha : I32 a) (h : a / 65536 = q) : Flo1 a q := fun w => by rw [← h]; exact floor_any a ha w
theorem fra1 {a q : Int} (ha : I32 a) (h : a - a / 65536 * 65536 = q) : Fra1 a q := fun w => by rw [← h]; exact frac_any a ha w
theorem lim2 {n l q : Int} (hn : I64 n) (h0 : 0 ≤ l) (h1 : l < 9223372036854775808) (h : lim n l = q) : Lim2 n l q := fun w => by rw [← h]; exact limit_any n l hn h0 h1 w

set_option maxRecDepth 100000 in
set_option maxHeartbeats 2000000 in
theorem awake_any (w : World) : Calls Try.prog 8 #[] w fun e w' => e = .returned (.bool true) ∧ Grown w w' := by
  have C1 := Lib.hid (div2 (ik32 65536) (ik32 196608) (show dq 65536 196608 = 21845 by decide) (show de 196608 = 0 by decide))
  have C2 := Lib.hid (div2 (ik32 1) (ik32 0) (show dq 1 0 = 0 by decide) (show de 0 = 2 by decide))
  have C3 := Lib.hid (lim2 (ik64 9) (show 0 ≤ 5 by decide) (by decide) (show lim 9 5 = 5 by decide))
  have C4 := Lib.hid (mul2 (ik32 98304) (ik32 (-32768)) (show sat (98304 * (-32768) / 65536) = -49152 by decide))
  have C5 := Lib.hid (add2 (ik32 2147483647) (ik32 1) (show sat (2147483647 + 1) = 2147483647 by decide))
  have C6 := Lib.hid (neg1 (ik32 (-2147483648)) (show sat (-(-2147483648)) = 2147483647 by decide))
  have C7 := Lib.hid (fro1 (ik64 (-2)) (show sat (-2 * 65536) = -131072 by decide))
  have C8 := Lib.hid (flo1 (ik32 (-1)) (show -1 / 65536 = -1 by decide))
  go_enter Try.func8, Try.ntmps8
  go_wp2_with (first
    | ((with_reducible refine (C1.out _).mono ?_); rintro e w1 ⟨rfl, g1⟩)
    | ((with_reducible refine (C2.out _).mono ?_); rintro e w2 ⟨rfl, g2⟩)
    | ((with_reducible refine (C3.out _).mono ?_); rintro e w' ⟨rfl, rfl⟩)
    | ((with_reducible refine (C4.out _).mono ?_); rintro e w4 ⟨rfl, g4⟩)
    | ((with_reducible refine (C5.out _).mono ?_); rintro e w5 ⟨rfl, g5⟩)
    | ((with_reducible refine (C6.out _).mono ?_); rintro e w6 ⟨rfl, g6⟩)
    | ((with_reducible refine (C7.out _).mono ?_); rintro e w' ⟨rfl, rfl⟩)
    | ((with_reducible refine (C8.out _).mono ?_); rintro e w' ⟨rfl, rfl⟩))
  go_ret
  exact ⟨rfl, grown_trans g1 (grown_trans g2 (grown_trans g4 (grown_trans g5 g6)))⟩
end Go.Proofs.Ytcachdbdcfjknaa
