/-
  The reference implementation of package fx: each function returns the same number as the program's.
-/
import Derived.Test.YtohkacgmdboknaaFx
namespace Go.Proofs.Ytohkacgmdboknaa
open Go.RowKit Go.Lib

theorem refsat_any (n : Int) (h : I64 n) (w : World) :
    Calls Try.prog 10 #[.int .i64 n] w fun e w' => e = .returned (.int .i32 (sat n)) ∧ w = w' := by
  obtain ⟨h1, h2⟩ := h
  by_cases c : 2147483647 < n
  · have e : sat n = 2147483647 := by unfold sat; omega
    rw [e]; clear e
    go_enter Try.func10, Try.ntmps10
    go_wp2
    go_ret
    exact ⟨rfl, rfl⟩
  · by_cases c2 : n < -2147483648
    · have e : sat n = -2147483648 := by unfold sat; omega
      rw [e]; clear e
      go_enter Try.func10, Try.ntmps10
      go_wp2
      go_ret
      exact ⟨rfl, rfl⟩
    · have e : sat n = n := by unfold sat; omega
      rw [e]; clear e
      go_enter Try.func10, Try.ntmps10
      go_wp2
      go_ret
      exact ⟨rfl, rfl⟩

/-- The reference's floor, for a positive divisor. -/
theorem reffl_any (a b : Int) (ha : I64 a) (hb0 : 0 < b) (hb : b < 9223372036854775808) (w : World) :
    Calls Try.prog 41 #[.int .i64 a, .int .i64 b] w fun e w' => e = .returned (.int .i64 (a / b)) ∧ w = w' := by
  obtain ⟨h1, h2⟩ := ha
  have hbz : (b == 0) = false := by simp; omega
  have hd := Int.mul_tdiv_add_tmod a b
  have hl := Int.tmod_lt_of_pos a hb0
  have hg : -b < a.tmod b := Int.lt_tmod_of_pos a hb0
  have hn0 : 0 ≤ a → 0 ≤ a.tmod b := fun h => Int.tmod_nonneg b h
  have hn1 : a ≤ 0 → a.tmod b ≤ 0 := fun h => by
    have := Int.tmod_nonneg b (show 0 ≤ -a by omega)
    rw [Int.neg_tmod] at this; omega
  have hq0 : 0 ≤ a → 0 ≤ a.tdiv b := fun h => Int.tdiv_nonneg h (by omega)
  have hq1 : a ≤ 0 → a.tdiv b ≤ 0 := fun h => by
    have := Int.tdiv_nonneg (show 0 ≤ -a by omega) (show 0 ≤ b by omega)
    rw [Int.neg_tdiv] at this; omega
  obtain ⟨q, hq⟩ : ∃ q, q = a.tdiv b := ⟨_, rfl⟩
  obtain ⟨r, hr⟩ : ∃ r, r = a.tmod b := ⟨_, rfl⟩
  rw [← hq, ← hr] at hd
  rw [← hr] at hl hg hn0 hn1
  rw [← hq] at hq0 hq1
  have hbq : ∀ x : Int, 0 ≤ x → x ≤ b * x := fun x hx => by
    have := Int.mul_le_mul_of_nonneg_right (show 1 ≤ b by omega) hx
    omega
  have q0 : -9223372036854775808 ≤ q ∧ q < 9223372036854775808 := by
    by_cases c : 0 ≤ a
    · have := hq0 c; have := hbq q this; have := hn0 c; omega
    · have h := hq1 (by omega); have := hbq (-q) (by omega); rw [Int.mul_neg] at this; have := hn1 (by omega); omega
  have W1 : IntKind.i64.wrap (a.tdiv b) = q := by rw [← hq, IntKind.wrap_i64]; omega
  have W2 : IntKind.i64.wrap (a.tmod b) = r := by rw [← hr, IntKind.wrap_i64]; omega
  have W3 : wrap64 (a.tdiv b) = q := by rw [← hq]; unfold wrap64; omega
  have W4 : wrap64 (a.tmod b) = r := by rw [← hr]; unfold wrap64; omega
  have hq' := hq.symm; have hr' := hr.symm
  clear hq hr hbq hn0 hn1 hq0 hq1
  by_cases c : r < 0
  · have e : a / b = q - 1 := by
      rw [Int.ediv_eq_iff_of_pos hb0, Int.sub_mul, Int.mul_comm q b]; omega
    have q2 : -9223372036854775808 ≤ q - 1 := by
      by_cases c2 : b = 1
      · subst c2; omega
      · have hbq2 : ∀ x : Int, 0 ≤ x → 2 * x ≤ b * x := fun x hx => Int.mul_le_mul_of_nonneg_right (show 2 ≤ b by omega) hx
        by_cases c3 : 0 ≤ q
        · omega
        · have := hbq2 (-q) (by omega); rw [Int.mul_neg b q] at this; omega
    rw [e]
    clear e hd
    go_enter Try.func41, Try.ntmps41
    go_wp2
    go_ret
    exact ⟨rfl, rfl⟩
  · have e : a / b = q := by
      rw [Int.ediv_eq_iff_of_pos hb0, Int.mul_comm q b]; omega
    rw [e]
    clear e hd
    go_enter Try.func41, Try.ntmps41
    go_wp2
    go_ret
    exact ⟨rfl, rfl⟩

theorem refmul2_any (a b : Int) (ha : I32 a) (hb : I32 b) (w : World) :
    Calls Try.prog 33 #[.int .i32 a, .int .i32 b] w fun e w' => e = .returned (.int .i32 (sat (a * b / 65536))) ∧ w = w' := by
  have h := mul32 ha hb
  have hw : IntKind.i64.wrap (a * b) = a * b := by rw [IntKind.wrap_i64]; omega
  have hw2 : wrap64 (a * b) = a * b := by unfold wrap64; omega
  obtain ⟨p, hp⟩ : ∃ p, p = a * b := ⟨_, rfl⟩
  rw [← hp] at h hw hw2 ⊢
  have HP := hp.symm; clear hp
  have hi : I64 p := ⟨by omega, by omega⟩
  have hi2 : I64 (p / 65536) := ⟨by omega, by omega⟩
  obtain ⟨h1, h2⟩ := ha; obtain ⟨h3, h4⟩ := hb
  go_enter Try.func33, Try.ntmps33
  go_wp2_with (first
    | ((with_reducible refine (reffl_any p 65536 hi (by decide) (by decide) _).mono ?_); rintro e w' ⟨rfl, rfl⟩)
    | ((with_reducible refine (refsat_any (p / 65536) hi2 _).mono ?_); rintro e w' ⟨rfl, rfl⟩))
  go_ret
  exact ⟨rfl, rfl⟩

end Go.Proofs.Ytohkacgmdboknaa
