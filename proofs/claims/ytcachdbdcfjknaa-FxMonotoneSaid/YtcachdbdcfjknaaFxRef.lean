/-
  The reference implementation of package fx: each function returns the same number as the program's.
-/
import Derived.Test.YtcachdbdcfjknaaFx
namespace Go.Proofs.Ytcachdbdcfjknaa
open Go.RowKit Go.Lib

theorem refsat_any (n : Int) (h : I64 n) (w : World) :
    Calls Try.prog 14 #[.int .i64 n] w fun e w' => e = .returned (.int .i32 (sat n)) ∧ w = w' := by
  obtain ⟨h1, h2⟩ := h
  by_cases c : 2147483647 < n
  · have e : sat n = 2147483647 := by unfold sat; omega
    rw [e]; clear e
    go_enter Try.func14, Try.ntmps14
    go_wp2
    go_ret
    exact ⟨rfl, rfl⟩
  · by_cases c2 : n < -2147483648
    · have e : sat n = -2147483648 := by unfold sat; omega
      rw [e]; clear e
      go_enter Try.func14, Try.ntmps14
      go_wp2
      go_ret
      exact ⟨rfl, rfl⟩
    · have e : sat n = n := by unfold sat; omega
      rw [e]; clear e
      go_enter Try.func14, Try.ntmps14
      go_wp2
      go_ret
      exact ⟨rfl, rfl⟩

theorem reflim_any (n l : Int) (h : I64 n) (h0 : 0 ≤ l) (h3 : l < 9223372036854775808) (w : World) :
    Calls Try.prog 18 #[.int .i64 n, .int .i64 l] w fun e w' => e = .returned (.int .i64 (lim n l)) ∧ w = w' := by
  obtain ⟨h1, h2⟩ := h
  by_cases c : l < n
  · have e : lim n l = l := by unfold lim; omega
    rw [e]; clear e
    go_enter Try.func18, Try.ntmps18
    go_wp2
    go_ret
    exact ⟨rfl, rfl⟩
  · by_cases c2 : n < -l
    · have e : lim n l = -l := by unfold lim; omega
      rw [e]; clear e
      go_enter Try.func18, Try.ntmps18
      go_wp2
      go_ret
      exact ⟨rfl, rfl⟩
    · have e : lim n l = n := by unfold lim; omega
      rw [e]; clear e
      go_enter Try.func18, Try.ntmps18
      go_wp2
      go_ret
      exact ⟨rfl, rfl⟩

/-- The reference's floor, for a positive divisor. -/
theorem reffl_any (a b : Int) (ha : I64 a) (hb0 : 0 < b) (hb : b < 9223372036854775808) (w : World) :
    Calls Try.prog 19 #[.int .i64 a, .int .i64 b] w fun e w' => e = .returned (.int .i64 (a / b)) ∧ w = w' := by
  obtain ⟨h1, h2⟩ := ha
  have hbz : (b == 0) = false := by simp; omega
  have hd := Int.mul_tdiv_add_tmod a b
  have hl := Int.tmod_lt_of_pos a hb0
  have hg : -b < a.tmod b := Int.lt_tmod_of_pos a hb0
  have hn0 : 0 ≤ a → 0 ≤ a.tmod b := fun h => Int.tmod_nonneg b h
  have hn1 : a ≤ 0 → a.tmod b ≤ 0 := fun h => by
    have := Int.tmod_nonneg b (show 0 ≤ -a by omega)
    rw [Int.neg_tmod] at this; omega
  have hq0 : 0 ≤ a → 0 ≤ a.tdiv b := fun h => Int.tdiv_nonneg h (by omega)
  have hq1 : a ≤ 0 → a.tdiv b ≤ 0 := fun h => by
    have := Int.tdiv_nonneg (show 0 ≤ -a by omega) (show 0 ≤ b by omega)
    rw [Int.neg_tdiv] at this; omega
  obtain ⟨q, hq⟩ : ∃ q, q = a.tdiv b := ⟨_, rfl⟩
  obtain ⟨r, hr⟩ : ∃ r, r = a.tmod b := ⟨_, rfl⟩
  rw [← hq, ← hr] at hd
  rw [← hr] at hl hg hn0 hn1
  rw [← hq] at hq0 hq1
  have hbq : ∀ x : Int, 0 ≤ x → x ≤ b * x := fun x hx => by
    have := Int.mul_le_mul_of_nonneg_right (show 1 ≤ b by omega) hx
    omega
  have q0 : -9223372036854775808 ≤ q ∧ q < 9223372036854775808 := by
    by_cases c : 0 ≤ a
    · have := hq0 c; have := hbq q this; have := hn0 c; omega
    · have h := hq1 (by omega); have := hbq (-q) (by omega); rw [Int.mul_neg] at this; have := hn1 (by omega); omega
  have W1 : IntKind.i64.wrap (a.tdiv b) = q := by rw [← hq, IntKind.wrap_i64]; omega
  have W2 : IntKind.i64.wrap (a.tmod b) = r := by rw [← hr, IntKind.wrap_i64]; omega
  have W3 : wrap64 (a.tdiv b) = q := by rw [← hq]; unfold wrap64; omega
  have W4 : wrap64 (a.tmod b) = r := by rw [← hr]; unfold wrap64; omega
  have hq' := hq.symm; have hr' := hr.symm
  clear hq hr hbq hn0 hn1 hq0 hq1
  by_cases c : r < 0
  · have e : a / b = q - 1 := by
      rw [Int.ediv_eq_iff_of_pos hb0, Int.sub_mul, Int.mul_comm q b]; omega
    have q2 : -9223372036854775808 ≤ q - 1 := by
      by_cases c2 : b = 1
      · subst c2; omega
      · have hbq2 : ∀ x : Int, 0 ≤ x → 2 * x ≤ b * x := fun x hx => Int.mul_le_mul_of_nonneg_right (show 2 ≤ b by omega) hx
        by_cases c3 : 0 ≤ q
        · omega
        · have := hbq2 (-q) (by omega); rw [Int.mul_neg b q] at this; omega
    rw [e]
    clear e hd
    go_enter Try.func19, Try.ntmps19
    go_wp2
    go_ret
    exact ⟨rfl, rfl⟩
  · have e : a / b = q := by
      rw [Int.ediv_eq_iff_of_pos hb0, Int.mul_comm q b]; omega
    rw [e]
    clear e hd
    go_enter Try.func19, Try.ntmps19
    go_wp2
    go_ret
    exact ⟨rfl, rfl⟩

theorem refmul2_any (a b : Int) (ha : I32 a) (hb : I32 b) (w : World) :
    Calls Try.prog 12 #[.int .i32 a, .int .i32 b] w fun e w' => e = .returned (.int .i32 (sat (a * b / 65536))) ∧ w = w' := by
  have h := mul32 ha hb
  have hw : IntKind.i64.wrap (a * b) = a * b := by rw [IntKind.wrap_i64]; omega
  have hw2 : wrap64 (a * b) = a * b := by unfold wrap64; omega
  obtain ⟨p, hp⟩ : ∃ p, p = a * b := ⟨_, rfl⟩
  rw [← hp] at h hw hw2 ⊢
  have HP := hp.symm; clear hp
  have hi : I64 p := ⟨by omega, by omega⟩
  have hi2 : I64 (p / 65536) := ⟨by omega, by omega⟩
  obtain ⟨h1, h2⟩ := ha; obtain ⟨h3, h4⟩ := hb
  go_enter Try.func12, Try.ntmps12
  go_wp2_with (first
    | ((with_reducible refine (reffl_any p 65536 hi (by decide) (by decide) _).mono ?_); rintro e w' ⟨rfl, rfl⟩)
    | ((with_reducible refine (refsat_any (p / 65536) hi2 _).mono ?_); rintro e w' ⟨rfl, rfl⟩))
  go_ret
  exact ⟨rfl, rfl⟩

/-- What Div returns: the floor, saturated, and the error. -/
def dq (a b : Int) : Int := if b = 0 then 0 else sat (fl (a * 65536) b)
def de (b : Int) : Int := if b = 0 then 2 else 0

theorem fl_bd (n b : Int) (hb : b ≠ 0) (h1 : -140737488355328 ≤ n) (h2 : n ≤ 140737488355328) : -140737488355328 ≤ fl n b ∧ fl n b ≤ 140737488355328 := by
  have k : ∀ m c : Int, 0 < c → -140737488355328 ≤ m → m ≤ 140737488355328 → -140737488355328 ≤ m / c ∧ m / c ≤ 140737488355328 := fun m c hc a b => by
    constructor
    · rw [Int.le_ediv_iff_mul_le hc]
      have := Int.mul_le_mul_of_nonneg_left (show 1 ≤ c by omega) (show (0 : Int) ≤ 140737488355328 by decide)
      omega
    · have := Int.ediv_le_ediv hc b
      refine Int.le_trans this ?_
      exact Int.ediv_le_self c (by decide)
  unfold fl
  split
  · exact k (-n) (-b) (by omega) (by omega) (by omega)
  · exact k n b (by omega) h1 h2

theorem div_val (a b : Int) (ha : I32 a) : sat (mdv a 65536 b) = dq a b ∧ mde a 65536 b = de b := by
  obtain ⟨h1, h2⟩ := ha
  unfold mdv mde dq de
  by_cases h0 : b = 0
  · subst h0; rw [if_pos rfl, if_pos rfl, if_pos rfl, if_pos rfl]; exact ⟨by decide, rfl⟩
  · have hf := fl_bd (a * 65536) b h0 (by omega) (by omega)
    have hi : I64 (fl (a * 65536) b) := ⟨by omega, by omega⟩
    rw [if_neg h0, if_neg h0, if_neg h0, if_neg h0, rv_in hi, re_in hi]
    exact ⟨rfl, rfl⟩

theorem div_any (a b : Int) (ha : I32 a) (hb : I32 b) (w : World) :
    Calls Try.prog 9 #[.int .i32 a, .int .i32 b] w fun e w' => e = .returned (.tuple #[.int .i32 (dq a b), .int .i64 (de b)]) ∧ Grown w w' := by
  rw [← (div_val a b ha).1, ← (div_val a b ha).2]
  exact div_raw a b ha hb w

theorem refdiv_any (a b : Int) (ha : I32 a) (hb : I32 b) (w : World) :
    Calls Try.prog 10 #[.int .i32 a, .int .i32 b] w fun e w' => e = .returned (.tuple #[.int .i32 (dq a b), .int .i64 (de b)]) ∧ w = w' := by
  obtain ⟨h1, h2⟩ := ha; obtain ⟨h3, h4⟩ := hb
  by_cases h0 : b = 0
  · subst h0
    have e1 : dq a 0 = 0 := rfl
    have e2 : de 0 = 2 := rfl
    rw [e1, e2]
    clear e1 e2
    go_enter Try.func10, Try.ntmps10
    go_wp2
    go_ret2
    exact ⟨rfl, rfl⟩
  · have hf := fl_bd (a * 65536) b h0 (by omega) (by omega)
    have e1 : dq a b = sat (fl (a * 65536) b) := if_neg h0
    have e2 : de b = 0 := if_neg h0
    rw [e1, e2]
    clear e1 e2
    have hbz : (b == 0) = false := by simpa using h0
    have hi : I64 (fl (a * 65536) b) := ik64 _ (by omega) (by omega)
    obtain ⟨f, hF⟩ : ∃ f, f = fl (a * 65536) b := ⟨_, rfl⟩
    rw [← hF] at hi ⊢
    by_cases c : b < 0
    · have e : f = -(a * 65536) / -b := by rw [hF]; unfold fl; rw [if_pos c]
      have w1 : wrap64 (-(a * 65536)) = -(a * 65536) := by unfold wrap64; omega
      have C := Lib.hid (fun w => show Calls Try.prog 19 #[.int .i64 (-(a * 65536)), .int .i64 (-b)] w fun e w' => e = .returned (.int .i64 f) ∧ w = w' from by
        rw [e]; exact reffl_any _ _ (ik64 _ (by omega) (by omega)) (by omega) (by omega) w)
      clear e hF hf h0
      go_enter Try.func10, Try.ntmps10
      go_wp2_with (first
        | ((with_reducible refine (C.out _).mono ?_); rintro e w' ⟨rfl, rfl⟩)
        | ((with_reducible refine (refsat_any f hi _).mono ?_); rintro e w' ⟨rfl, rfl⟩))
      go_ret2
      exact ⟨rfl, rfl⟩
    · have e : f = a * 65536 / b := by rw [hF]; unfold fl; rw [if_neg c]
      have C := Lib.hid (fun w => show Calls Try.prog 19 #[.int .i64 (a * 65536), .int .i64 b] w fun e w' => e = .returned (.int .i64 f) ∧ w = w' from by
        rw [e]; exact reffl_any _ _ (ik64 _ (by omega) (by omega)) (by omega) (by omega) w)
      clear e hF hf h0
      go_enter Try.func10, Try.ntmps10
      go_wp2_with (first
        | ((with_reducible refine (C.out _).mono ?_); rintro e w' ⟨rfl, rfl⟩)
        | ((with_reducible refine (refsat_any f hi _).mono ?_); rintro e w' ⟨rfl, rfl⟩))
      go_ret2
      exact ⟨rfl, rfl⟩

theorem reffrom_any (n : Int) (h : I64 n) (w : World) :
    Calls Try.prog 16 #[.int .i64 n] w fun e w' => e = .returned (.int .i32 (sat (n * 65536))) ∧ w = w' := by
  obtain ⟨h1, h2⟩ := h
  by_cases c : 32768 ≤ n
  · have e : sat (n * 65536) = 2147483647 := by unfold sat; omega
    rw [e]; clear e
    go_enter Try.func16, Try.ntmps16
    go_wp2
    go_ret
    exact ⟨rfl, rfl⟩
  · by_cases c2 : n ≤ -32768
    · have e : sat (n * 65536) = -2147483648 := by unfold sat; omega
      rw [e]; clear e
      go_enter Try.func16, Try.ntmps16
      go_wp2
      go_ret
      exact ⟨rfl, rfl⟩
    · have e : sat (n * 65536) = n * 65536 := by unfold sat; omega
      rw [e]; clear e
      go_enter Try.func16, Try.ntmps16
      go_wp2
      go_ret
      exact ⟨rfl, rfl⟩
end Go.Proofs.Ytcachdbdcfjknaa
