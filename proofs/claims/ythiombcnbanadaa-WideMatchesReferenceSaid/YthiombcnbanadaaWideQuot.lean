/-
  The walk of the law WideQuotient.
-/
import Derived.Test.YthiombcnbanadaaRefMul
namespace Go.Proofs.Ythiombcnbanadaa
open Go.RowKit Go.Lib

theorem less_words (x y : Int) (r : Bool) (h : decide (x < y) = r) (w : World) :
    Calls Try.prog 15 #[.int .i64 (x / 18446744073709551616), .int .u64 (x % 18446744073709551616), .int .i64 (y / 18446744073709551616), .int .u64 (y % 18446744073709551616)] w fun e' w' => e' = .returned (.bool r) ∧ w = w' := by
  refine less_at _ _ _ _ r ?_ w
  rw [← h, Bool.eq_iff_iff]
  simp
  omega

theorem refmul_at (a b h l : Int) (ha : I64 a) (hb : I64 b) (h1 : a * b / 18446744073709551616 = h) (h2 : a * b % 18446744073709551616 = l) (w : World) :
    Calls Try.prog 10 #[.int .i64 a, .int .i64 b] w fun e' w' => e' = .returned (.tuple #[.int .i64 h, .int .u64 l]) ∧ Grown w w' := by
  rw [← h1, ← h2]; exact refmul_any a b ha hb w

set_option maxRecDepth 100000 in
set_option maxHeartbeats 2000000 in
theorem quotient_err (a b c e : Int) (h : (c = 0 ∧ e = 2) ∨ ((c == 0) = false ∧ e = 3))
    (d1 : Hid (∀ w, Calls Try.prog 11 #[.int .i64 a, .int .i64 b, .int .i64 c] w fun e' w' => e' = .returned (.tuple #[.int .i64 0, .int .i64 e]) ∧ Grown w w')) (w : World) :
    Calls Try.prog 4 #[.int .i64 a, .int .i64 b, .int .i64 c] w fun e w' => e = .returned (.bool true) ∧ Grown w w' := by
  rcases h with ⟨rfl, rfl⟩ | ⟨h, rfl⟩
  all_goals
    go_enter Try.func4, Try.ntmps4
    go_wp2_with (first
      | ((with_reducible refine (awake_any _).mono ?_); rintro e w1 ⟨rfl, g1⟩)
      | ((with_reducible refine (d1.out _).mono ?_); rintro e w2 ⟨rfl, g2⟩))
    go_ret
    exact ⟨rfl, grown_trans g1 g2⟩

set_option maxRecDepth 100000 in
set_option maxHeartbeats 2000000 in
theorem quotient_end (a b c q : Int) (h : (q == 9223372036854775807) = true ∨ ((q == 9223372036854775807) = false ∧ (q == -9223372036854775808) = true))
    (d1 : Hid (∀ w, Calls Try.prog 11 #[.int .i64 a, .int .i64 b, .int .i64 c] w fun e' w' => e' = .returned (.tuple #[.int .i64 q, .int .i64 0]) ∧ Grown w w')) (w : World) :
    Calls Try.prog 4 #[.int .i64 a, .int .i64 b, .int .i64 c] w fun e w' => e = .returned (.bool true) ∧ Grown w w' := by
  rcases h with h | ⟨h, h'⟩
  all_goals
    go_enter Try.func4, Try.ntmps4
    go_wp2_with (first
      | ((with_reducible refine (awake_any _).mono ?_); rintro e w1 ⟨rfl, g1⟩)
      | ((with_reducible refine (d1.out _).mono ?_); rintro e w2 ⟨rfl, g2⟩))
    go_ret
    exact ⟨rfl, grown_trans g1 g2⟩

set_option maxRecDepth 100000 in
set_option maxHeartbeats 2000000 in
theorem quotient_walk (a b c q q1 h l i m k n : Int) (h1 : (q == 9223372036854775807) = false) (h2 : (q == -9223372036854775808) = false) (hq : wrap64 (q + 1) = q1)
    (d1 : Hid (∀ w, Calls Try.prog 11 #[.int .i64 a, .int .i64 b, .int .i64 c] w fun e' w' => e' = .returned (.tuple #[.int .i64 q, .int .i64 0]) ∧ Grown w w'))
    (d2 : Hid (∀ w, Calls Try.prog 10 #[.int .i64 a, .int .i64 b] w fun e' w' => e' = .returned (.tuple #[.int .i64 h, .int .u64 l]) ∧ Grown w w'))
    (d3 : Hid (∀ w, Calls Try.prog 10 #[.int .i64 q, .int .i64 c] w fun e' w' => e' = .returned (.tuple #[.int .i64 i, .int .u64 m]) ∧ Grown w w'))
    (d4 : Hid (∀ w, Calls Try.prog 10 #[.int .i64 q1, .int .i64 c] w fun e' w' => e' = .returned (.tuple #[.int .i64 k, .int .u64 n]) ∧ Grown w w'))
    (hc : (0 < c ∧ Hid (∀ w, Calls Try.prog 15 #[.int .i64 h, .int .u64 l, .int .i64 i, .int .u64 m] w fun e' w' => e' = .returned (.bool false) ∧ w = w') ∧ Hid (∀ w, Calls Try.prog 15 #[.int .i64 h, .int .u64 l, .int .i64 k, .int .u64 n] w fun e' w' => e' = .returned (.bool true) ∧ w = w')) ∨
      (¬ 0 < c ∧ Hid (∀ w, Calls Try.prog 15 #[.int .i64 i, .int .u64 m, .int .i64 h, .int .u64 l] w fun e' w' => e' = .returned (.bool false) ∧ w = w') ∧ Hid (∀ w, Calls Try.prog 15 #[.int .i64 k, .int .u64 n, .int .i64 h, .int .u64 l] w fun e' w' => e' = .returned (.bool true) ∧ w = w'))) (w : World) :
    Calls Try.prog 4 #[.int .i64 a, .int .i64 b, .int .i64 c] w fun e w' => e = .returned (.bool true) ∧ Grown w w' := by
  rcases hc with ⟨hc, d5, d6⟩ | ⟨hc, d5, d6⟩
  all_goals
    go_enter Try.func4, Try.ntmps4
    go_wp2_with (first
      | ((with_reducible refine (awake_any _).mono ?_); rintro e w1 ⟨rfl, g1⟩)
      | ((with_reducible refine (d1.out _).mono ?_); rintro e w2 ⟨rfl, g2⟩)
      | ((with_reducible refine (d2.out _).mono ?_); rintro e w3 ⟨rfl, g3⟩)
      | ((with_reducible refine (d3.out _).mono ?_); rintro e w4 ⟨rfl, g4⟩)
      | ((with_reducible refine (d4.out _).mono ?_); rintro e w5 ⟨rfl, g5⟩)
      | ((with_reducible refine (d5.out _).mono ?_); rintro e w' ⟨rfl, rfl⟩)
      | ((with_reducible refine (d6.out _).mono ?_); rintro e w' ⟨rfl, rfl⟩))
    go_ret
    exact ⟨rfl, grown_trans g1 (grown_trans g2 (grown_trans g3 (grown_trans g4 g5)))⟩

/-- The floor lies between the quotient's multiples. -/
theorem fl_pos {n c : Int} (hc : 0 < c) : fl n c * c ≤ n ∧ n < (fl n c + 1) * c := by
  unfold fl
  rw [if_neg (by omega)]
  exact ⟨(Int.le_ediv_iff_mul_le hc).1 (Int.le_refl _), (Int.ediv_lt_iff_lt_mul hc).1 (by omega)⟩
theorem fl_neg {n c : Int} (hc : c < 0) : n ≤ fl n c * c ∧ (fl n c + 1) * c < n := by
  unfold fl
  rw [if_pos hc]
  have h1 := (Int.le_ediv_iff_mul_le (show 0 < -c by omega)).1 (Int.le_refl (-n / -c))
  have h2 := (Int.ediv_lt_iff_lt_mul (show 0 < -c by omega)).1 (show -n / -c < -n / -c + 1 by omega)
  rw [Int.mul_neg] at h1 h2
  omega

theorem quotient_law (a b c : Int) (ha : I64 a) (hb : I64 b) (hc : I64 c) (w : World) :
    Calls Try.prog 4 #[.int .i64 a, .int .i64 b, .int .i64 c] w fun e w' => e = .returned (.bool true) ∧ Grown w w' := by
  by_cases h0 : c = 0
  · exact quotient_err a b c 2 (.inl ⟨h0, rfl⟩) (Lib.hid fun w => md_at a b c 0 2 ha hb hc (if_pos h0) (if_pos h0) w) w
  have e1 : mdv a b c = rv (fl (a * b) c) := if_neg h0
  have e2 : mde a b c = re (fl (a * b) c) := if_neg h0
  obtain ⟨q, hq⟩ : ∃ q, q = fl (a * b) c := ⟨_, rfl⟩
  rw [← hq] at e1 e2
  by_cases hi : I64 q
  · rw [rv_in hi] at e1
    rw [re_in hi] at e2
    have d1 := Lib.hid fun w => md_at a b c q 0 ha hb hc e1 e2 w
    by_cases h1 : q = 9223372036854775807
    · exact quotient_end a b c q (.inl (by simpa using h1)) d1 w
    by_cases h2 : q = -9223372036854775808
    · exact quotient_end a b c q (.inr ⟨by simpa using h1, by simpa using h2⟩) d1 w
    have hi1 : I64 (q + 1) := by have := hi.1; have := hi.2; exact ⟨by omega, by omega⟩
    refine quotient_walk a b c q (q + 1) _ _ _ _ _ _ (by simpa using h1) (by simpa using h2) (by unfold wrap64; have := hi1.1; have := hi1.2; omega) d1
      (Lib.hid fun w => refmul_at a b _ _ ha hb rfl rfl w) (Lib.hid fun w => refmul_at q c _ _ hi hc rfl rfl w) (Lib.hid fun w => refmul_at (q + 1) c _ _ hi1 hc rfl rfl w) ?_ w
    by_cases hp : 0 < c
    · left
      have f := fl_pos (n := a * b) hp
      rw [← hq] at f
      exact ⟨hp, Lib.hid fun w => less_words _ _ _ (by simpa using f.1) w, Lib.hid fun w => less_words _ _ _ (by simpa using f.2) w⟩
    · right
      have f := fl_neg (n := a * b) (show c < 0 by omega)
      rw [← hq] at f
      exact ⟨hp, Lib.hid fun w => less_words _ _ _ (by simpa using f.1) w, Lib.hid fun w => less_words _ _ _ (by simpa using f.2) w⟩
  · rw [rv_out hi] at e1
    rw [re_out hi] at e2
    exact quotient_err a b c 3 (.inr ⟨by simpa using h0, rfl⟩) (Lib.hid fun w => md_at a b c 0 3 ha hb hc e1 e2 w) w
end Go.Proofs.Ythiombcnbanadaa
