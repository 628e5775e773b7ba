/-
  The reference implementation of package fx: each function returns the same number as the program's.
-/
import Derived.Test.YtnmlknjjbonenaaFx
namespace Go.Proofs.Ytnmlknjjbonenaa
open Go.RowKit Go.Lib

/-- The reference's floor, for a positive divisor. -/
theorem reffl_any (a b : Int) (ha : I64 a) (hb0 : 0 < b) (hb : b < 9223372036854775808) (w : World) :
    Calls Try.prog 21 #[.int .i64 a, .int .i64 b] w fun e w' => e = .returned (.int .i64 (a / b)) ∧ w = w' := by
  obtain ⟨h1, h2⟩ := ha
  have hbz : (b == 0) = false := by simp; omega
  have hd := Int.mul_tdiv_add_tmod a b
  have hl := Int.tmod_lt_of_pos a hb0
  have hg : -b < a.tmod b := Int.lt_tmod_of_pos a hb0
  have hn0 : 0 ≤ a → 0 ≤ a.tmod b := fun h => Int.tmod_nonneg b h
  have hn1 : a ≤ 0 → a.tmod b ≤ 0 := fun h => by
    have := Int.tmod_nonneg b (show 0 ≤ -a by omega)
    rw [Int.neg_tmod] at this; omega
  have hq0 : 0 ≤ a → 0 ≤ a.tdiv b := fun h => Int.tdiv_nonneg h (by omega)
  have hq1 : a ≤ 0 → a.tdiv b ≤ 0 := fun h => by
    have := Int.tdiv_nonneg (show 0 ≤ -a by omega) (show 0 ≤ b by omega)
    rw [Int.neg_tdiv] at this; omega
  obtain ⟨q, hq⟩ : ∃ q, q = a.tdiv b := ⟨_, rfl⟩
  obtain ⟨r, hr⟩ : ∃ r, r = a.tmod b := ⟨_, rfl⟩
  rw [← hq, ← hr] at hd
  rw [← hr] at hl hg hn0 hn1
  rw [← hq] at hq0 hq1
  have hbq : ∀ x : Int, 0 ≤ x → x ≤ b * x := fun x hx => by
    have := Int.mul_le_mul_of_nonneg_right (show 1 ≤ b by omega) hx
    omega
  have q0 : -9223372036854775808 ≤ q ∧ q < 9223372036854775808 := by
    by_cases c : 0 ≤ a
    · have := hq0 c; have := hbq q this; have := hn0 c; omega
    · have h := hq1 (by omega); have := hbq (-q) (by omega); rw [Int.mul_neg] at this; have := hn1 (by omega); omega
  have W1 : IntKind.i64.wrap (a.tdiv b) = q := by rw [← hq, IntKind.wrap_i64]; omega
  have W2 : IntKind.i64.wrap (a.tmod b) = r := by rw [← hr, IntKind.wrap_i64]; omega
  have W3 : wrap64 (a.tdiv b) = q := by rw [← hq]; unfold wrap64; omega
  have W4 : wrap64 (a.tmod b) = r := by rw [← hr]; unfold wrap64; omega
  have hq' := hq.symm; have hr' := hr.symm
  clear hq hr hbq hn0 hn1 hq0 hq1
  by_cases c : r < 0
  · have e : a / b = q - 1 := by
      rw [Int.ediv_eq_iff_of_pos hb0, Int.sub_mul, Int.mul_comm q b]; omega
    have q2 : -9223372036854775808 ≤ q - 1 := by
      by_cases c2 : b = 1
      · subst c2; omega
      · have hbq2 : ∀ x : Int, 0 ≤ x → 2 * x ≤ b * x := fun x hx => Int.mul_le_mul_of_nonneg_right (show 2 ≤ b by omega) hx
        by_cases c3 : 0 ≤ q
        · omega
        · have := hbq2 (-q) (by omega); rw [Int.mul_neg b q] at this; omega
    rw [e]
    clear e hd
    go_enter Try.func21, Try.ntmps21
    go_wp2
    go_ret
    exact ⟨rfl, rfl⟩
  · have e : a / b = q := by
      rw [Int.ediv_eq_iff_of_pos hb0, Int.mul_comm q b]; omega
    rw [e]
    clear e hd
    go_enter Try.func21, Try.ntmps21
    go_wp2
    go_ret
    exact ⟨rfl, rfl⟩

/-- What Div returns: the floor, saturated, and the error. -/
def dq (a b : Int) : Int := if b = 0 then 0 else sat (fl (a * 65536) b)
def de (b : Int) : Int := if b = 0 then 2 else 0

theorem fl_bd (n b : Int) (hb : b ≠ 0) (h1 : -140737488355328 ≤ n) (h2 : n ≤ 140737488355328) : -140737488355328 ≤ fl n b ∧ fl n b ≤ 140737488355328 := by
  have k : ∀ m c : Int, 0 < c → -140737488355328 ≤ m → m ≤ 140737488355328 → -140737488355328 ≤ m / c ∧ m / c ≤ 140737488355328 := fun m c hc a b => by
    constructor
    · rw [Int.le_ediv_iff_mul_le hc]
      have := Int.mul_le_mul_of_nonneg_left (show 1 ≤ c by omega) (show (0 : Int) ≤ 140737488355328 by decide)
      omega
    · have := Int.ediv_le_ediv hc b
      refine Int.le_trans this ?_
      exact Int.ediv_le_self c (by decide)
  unfold fl
  split
  · exact k (-n) (-b) (by omega) (by omega) (by omega)
  · exact k n b (by omega) h1 h2

theorem div_val (a b : Int) (ha : I32 a) : sat (mdv a 65536 b) = dq a b ∧ mde a 65536 b = de b := by
  obtain ⟨h1, h2⟩ := ha
  unfold mdv mde dq de
  by_cases h0 : b = 0
  · subst h0; rw [if_pos rfl, if_pos rfl, if_pos rfl, if_pos rfl]; exact ⟨by decide, rfl⟩
  · have hf := fl_bd (a * 65536) b h0 (by omega) (by omega)
    have hi : I64 (fl (a * 65536) b) := ⟨by omega, by omega⟩
    rw [if_neg h0, if_neg h0, if_neg h0, if_neg h0, rv_in hi, re_in hi]
    exact ⟨rfl, rfl⟩

end Go.Proofs.Ytnmlknjjbonenaa
