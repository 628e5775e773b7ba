/-
  The walks of three laws of package wide: WideCancels, WideSymmetric, WideShifts.
-/
import Derived.Test.YthiombcnbanadaaWideAwake
import Derived.Deep.DeepCutAuto
namespace Go.Proofs.Ythiombcnbanadaa
open Go.RowKit Go.Lib

theorem fl_cancel (a b : Int) (hb : b ≠ 0) : fl (a * b) b = a := by
  unfold fl
  split
  · rw [← Int.mul_neg]; exact Int.mul_ediv_cancel _ (by omega)
  · exact Int.mul_ediv_cancel _ hb
theorem fl_one (n : Int) : fl n 1 = n := by
  unfold fl; rw [if_neg (by decide)]; exact Int.ediv_one n

set_option maxRecDepth 100000 in
set_option maxHeartbeats 1000000 in
theorem cancels (a b : Int) (ha : I64 a) (hb : I64 b) (w : World) :
    Calls Try.prog 7 #[.int .i64 a, .int .i64 b] w fun e w' => e = .returned (.bool true) ∧ Grown w w' := by
  have I1 := ik 1
  by_cases h0 : b = 0
  · subst h0
    have d1 := Lib.hid (fun w => md_at a 0 0 0 2 ha hb hb rfl rfl w)
    have d2 := Lib.hid (fun w => md_at a 0 1 0 0 ha hb I1 (by unfold mdv; rw [Int.mul_zero]; decide) (by unfold mde; rw [Int.mul_zero]; decide) w)
    have d3 := Lib.hid (fun w => ms_at a 0 0 0 0 ha hb (by unfold msv; rw [Int.mul_zero]; decide) (by unfold mse; rw [Int.mul_zero]; decide) w)
    go_enter Try.func7, Try.ntmps7
    go_wp2_with (first
      | ((with_reducible refine (awake_any _).mono ?_); rintro e w1 ⟨rfl, g1⟩)
      | ((with_reducible refine (d1.out _).mono ?_); rintro e w2 ⟨rfl, g2⟩)
      | ((with_reducible refine (d2.out _).mono ?_); rintro e w3 ⟨rfl, g3⟩)
      | ((with_reducible refine (d3.out _).mono ?_); rintro e w4 ⟨rfl, g4⟩))
    go_ret
    exact ⟨rfl, grown_trans g1 (grown_trans g2 (grown_trans g3 g4))⟩
  · have hbz : (b == 0) = false := by simpa using h0
    have E1 : mdv a b 1 = rv (a * b) := by unfold mdv; rw [if_neg (by decide), fl_one]
    have E2 : mde a b 1 = re (a * b) := by unfold mde; rw [if_neg (by decide), fl_one]
    have E3 : msv a b 0 = rv (a * b) := by unfold msv; rw [if_neg (by decide)]; simp
    have E4 : mse a b 0 = re (a * b) := by unfold mse; rw [if_neg (by decide)]; simp
    obtain ⟨v, hv⟩ : ∃ v, v = rv (a * b) := ⟨_, rfl⟩
    obtain ⟨x, hx⟩ : ∃ x, x = re (a * b) := ⟨_, rfl⟩
    rw [← hv] at E1 E3; rw [← hx] at E2 E4
    have d1 := Lib.hid (fun w => md_at a b b a 0 ha hb hb (by unfold mdv; rw [if_neg h0, fl_cancel a b h0, rv_in ha]) (by unfold mde; rw [if_neg h0, fl_cancel a b h0, re_in ha]) w)
    have d2 := Lib.hid (fun w => md_at a b 1 v x ha hb I1 E1 E2 w)
    have d3 := Lib.hid (fun w => ms_at a b 0 v x ha hb E3 E4 w)
    clear E1 E2 E3 E4 hv hx h0
    go_enter Try.func7, Try.ntmps7
    go_wp2_with (first
      | ((with_reducible refine (awake_any _).mono ?_); rintro e w1 ⟨rfl, g1⟩)
      | ((with_reducible refine (d1.out _).mono ?_); rintro e w2 ⟨rfl, g2⟩)
      | ((with_reducible refine (d2.out _).mono ?_); rintro e w3 ⟨rfl, g3⟩)
      | ((with_reducible refine (d3.out _).mono ?_); rintro e w4 ⟨rfl, g4⟩))
    go_ret
    exact ⟨rfl, grown_trans g1 (grown_trans g2 (grown_trans g3 g4))⟩

theorem prod_bd {a b : Int} (ha : I64 a) (hb : I64 b) : -85070591730234615865843651857942052864 ≤ a * b ∧ a * b ≤ 85070591730234615865843651857942052864 := by
  have hm := mag_mul a b
  have a0 := ha.mag0; have b0 := hb.mag0
  have p0 : 0 ≤ mag a * mag b := Int.mul_nonneg a0.1 b0.1
  have p1 : mag a * mag b ≤ 9223372036854775808 * 9223372036854775808 := Int.mul_le_mul a0.2 b0.2 b0.1 (by omega)
  rw [hm] at p0 p1
  by_cases h : (decide (a < 0) != decide (b < 0)) = true
  · rw [if_pos h] at p0 p1; omega
  · rw [if_neg h] at p0 p1; omega

theorem fl_comm (a b c : Int) : mdv a b c = mdv b a c ∧ mde a b c = mde b a c := by
  unfold mdv mde; rw [Int.mul_comm a b]; exact ⟨rfl, rfl⟩
theorem ms_comm (a b n : Int) : msv a b n = msv b a n ∧ mse a b n = mse b a n := by
  unfold msv mse; rw [Int.mul_comm a b]; exact ⟨rfl, rfl⟩

set_option maxRecDepth 100000 in
set_option maxHeartbeats 2000000 in
theorem symmetric (a b c n : Int) (ha : I64 a) (hb : I64 b) (hc : I64 c) (w : World) :
    Calls Try.prog 6 #[.int .i64 a, .int .i64 b, .int .i64 c, .int .i64 n] w fun e w' => e = .returned (.bool true) ∧ Grown w w' := by
  have bd := prod_bd ha hb
  obtain ⟨P, hP⟩ : ∃ P, P = a * b := ⟨_, rfl⟩
  rw [← hP] at bd
  obtain ⟨h, hh⟩ : ∃ h, h = P / 18446744073709551616 := ⟨_, rfl⟩
  obtain ⟨l, hl⟩ : ∃ l, l = P % 18446744073709551616 := ⟨_, rfl⟩
  obtain ⟨x, hx⟩ : ∃ x, x = mdv a b c := ⟨_, rfl⟩
  obtain ⟨y, hy⟩ : ∃ y, y = mde a b c := ⟨_, rfl⟩
  obtain ⟨z, hz⟩ : ∃ z, z = msv a b n := ⟨_, rfl⟩
  obtain ⟨u, hu⟩ : ∃ u, u = mse a b n := ⟨_, rfl⟩
  have d1 := Lib.hid (fun w => mul_at a b h l ha hb (by rw [hh, hP]) (by rw [hl, hP]) w)
  have d2 := Lib.hid (fun w => mul_at b a h l hb ha (by rw [hh, hP, Int.mul_comm]) (by rw [hl, hP, Int.mul_comm]) w)
  have d3 := Lib.hid (fun w => md_at a b c x y ha hb hc hx.symm hy.symm w)
  have d4 := Lib.hid (fun w => md_at b a c x y hb ha hc (by rw [hx]; exact (fl_comm a b c).1.symm) (by rw [hy]; exact (fl_comm a b c).2.symm) w)
  have d5 := Lib.hid (fun w => ms_at a b n z u ha hb hz.symm hu.symm w)
  have d6 := Lib.hid (fun w => ms_at b a n z u hb ha (by rw [hz]; exact (ms_comm a b n).1.symm) (by rw [hu]; exact (ms_comm a b n).2.symm) w)
  clear hx hy hz hu
  by_cases hm : a = -9223372036854775808
  · have hmz : (a == -9223372036854775808) = true := by simpa using hm
    have HP := Lib.hid hP
    clear hP hm hh hl bd
    go_enter Try.func6, Try.ntmps6
    go_wp2_with (first
      | ((with_reducible refine (awake_any _).mono ?_); rintro e w1 ⟨rfl, g1⟩)
      | ((with_reducible refine (d1.out _).mono ?_); rintro e w2 ⟨rfl, g2⟩)
      | ((with_reducible refine (d2.out _).mono ?_); rintro e w3 ⟨rfl, g3⟩)
      | ((with_reducible refine (d3.out _).mono ?_); rintro e w4 ⟨rfl, g4⟩)
      | ((with_reducible refine (d4.out _).mono ?_); rintro e w5 ⟨rfl, g5⟩)
      | ((with_reducible refine (d5.out _).mono ?_); rintro e w6 ⟨rfl, g6⟩)
      | ((with_reducible refine (d6.out _).mono ?_); rintro e w7 ⟨rfl, g7⟩))
    go_ret
    exact ⟨rfl, grown_trans g1 (grown_trans g2 (grown_trans g3 (grown_trans g4 (grown_trans g5 (grown_trans g6 g7)))))⟩
  · have hmz : (a == -9223372036854775808) = false := by simpa using hm
    obtain ⟨na, hna⟩ : ∃ na, na = -a := ⟨_, rfl⟩
    have wna : wrap64 (-a) = na := by unfold wrap64; have := ha.1; have := ha.2; omega
    have hna' : I64 na := by have := ha.1; have := ha.2; exact ⟨by omega, by omega⟩
    obtain ⟨j, hj⟩ : ∃ j, j = -P / 18446744073709551616 := ⟨_, rfl⟩
    obtain ⟨o, ho⟩ : ∃ o, o = -P % 18446744073709551616 := ⟨_, rfl⟩
    have d7 := Lib.hid (fun w => mul_at na b j o hna' hb (by rw [hj, hna, Int.neg_mul, hP]) (by rw [ho, hna, Int.neg_mul, hP]) w)
    by_cases hl0 : l = 0
    · have k1 : (o == 0) = true := by simp; omega
      have k2 : wrap64 (-h) = j := by unfold wrap64; omega
      have k3 : (l == 0) = true := by simpa using hl0
      have HP := Lib.hid hP
      clear hP hm hh hl bd hna hj ho hl0
      go_enter Try.func6, Try.ntmps6
      go_wp2_with (first
        | ((with_reducible refine (awake_any _).mono ?_); rintro e w1 ⟨rfl, g1⟩)
        | ((with_reducible refine (d1.out _).mono ?_); rintro e w2 ⟨rfl, g2⟩)
        | ((with_reducible refine (d2.out _).mono ?_); rintro e w3 ⟨rfl, g3⟩)
        | ((with_reducible refine (d3.out _).mono ?_); rintro e w4 ⟨rfl, g4⟩)
        | ((with_reducible refine (d4.out _).mono ?_); rintro e w5 ⟨rfl, g5⟩)
        | ((with_reducible refine (d5.out _).mono ?_); rintro e w6 ⟨rfl, g6⟩)
        | ((with_reducible refine (d6.out _).mono ?_); rintro e w7 ⟨rfl, g7⟩)
        | ((with_reducible refine (d7.out _).mono ?_); rintro e w8 ⟨rfl, g8⟩))
      go_ret
      exact ⟨rfl, grown_trans g1 (grown_trans g2 (grown_trans g3 (grown_trans g4 (grown_trans g5 (grown_trans g6 (grown_trans g7 g8))))))⟩
    · have k1 : IntKind.u64.wrap (-l) = o := by rw [IntKind.wrap_u64]; omega
      have k2 : wrap64 (wrap64 (-h) - 1) = j := by unfold wrap64; omega
      have k4 : wrap64 (-h) = -h := by unfold wrap64; omega
      have k5 : wrap64 (-h - 1) = j := by unfold wrap64; omega
      have k3 : (l == 0) = false := by simpa using hl0
      have HP := Lib.hid hP
      clear hP hm hh hl bd hna hj ho hl0 k2
      go_enter Try.func6, Try.ntmps6
      go_wp2_with (first
        | ((with_reducible refine (awake_any _).mono ?_); rintro e w1 ⟨rfl, g1⟩)
        | ((with_reducible refine (d1.out _).mono ?_); rintro e w2 ⟨rfl, g2⟩)
        | ((with_reducible refine (d2.out _).mono ?_); rintro e w3 ⟨rfl, g3⟩)
        | ((with_reducible refine (d3.out _).mono ?_); rintro e w4 ⟨rfl, g4⟩)
        | ((with_reducible refine (d4.out _).mono ?_); rintro e w5 ⟨rfl, g5⟩)
        | ((with_reducible refine (d5.out _).mono ?_); rintro e w6 ⟨rfl, g6⟩)
        | ((with_reducible refine (d6.out _).mono ?_); rintro e w7 ⟨rfl, g7⟩)
        | ((with_reducible refine (d7.out _).mono ?_); rintro e w8 ⟨rfl, g8⟩))
      go_ret
      exact ⟨rfl, grown_trans g1 (grown_trans g2 (grown_trans g3 (grown_trans g4 (grown_trans g5 (grown_trans g6 (grown_trans g7 g8))))))⟩

theorem shift_div (a b : Int) (k : Nat) (hk : k ≤ 61) : mdv a b (2 ^ k) = msv a b k ∧ mde a b (2 ^ k) = mse a b k := by
  have hp := two_pow k (by omega)
  unfold mdv mde msv mse fl
  rw [if_neg (by omega), if_neg (by omega), if_neg (by omega), if_neg (by omega), if_neg (by omega), Int.toNat_natCast]
  exact ⟨rfl, rfl⟩

set_option maxRecDepth 100000 in
set_option maxHeartbeats 2000000 in
theorem shifts_walk (a b n k D X E h l Z G : Int) (hn0 : 0 ≤ n) (hn1 : n ≤ 255) (hk : n % 62 = k) (_hk0 : 0 ≤ k) (_hk1 : k ≤ 61) (hD : IntKind.i64.wrap (2 ^ k.toNat) = D)
    (d1 : Hid (∀ w, Calls Try.prog 13 #[.int .i64 a, .int .i64 b, .int .i64 k] w fun e' w' => e' = .returned (.tuple #[.int .i64 X, .int .i64 E]) ∧ Grown w w'))
    (d2 : Hid (∀ w, Calls Try.prog 11 #[.int .i64 a, .int .i64 b, .int .i64 D] w fun e' w' => e' = .returned (.tuple #[.int .i64 X, .int .i64 E]) ∧ Grown w w'))
    (d3 : Hid (∀ w, Calls Try.prog 9 #[.int .i64 a, .int .i64 b] w fun e' w' => e' = .returned (.tuple #[.int .i64 h, .int .u64 l]) ∧ Grown w w'))
    (d4 : Hid (∀ w, Calls Try.prog 13 #[.int .i64 a, .int .i64 b, .int .i64 0] w fun e' w' => e' = .returned (.tuple #[.int .i64 Z, .int .i64 G]) ∧ Grown w w'))
    (hc : (h = 0 ∧ l < 9223372036854775808 ∧ G = 0 ∧ IntKind.u64.wrap Z = l) ∨ (h = 0 ∧ ¬ l < 9223372036854775808 ∧ G = 3) ∨ (h = -1 ∧ 9223372036854775808 ≤ l ∧ G = 0 ∧ IntKind.u64.wrap Z = l) ∨ (h = -1 ∧ ¬ 9223372036854775808 ≤ l ∧ G = 3) ∨ ((h == 0) = false ∧ (h == -1) = false ∧ G = 3)) (w : World) :
    Calls Try.prog 5 #[.int .i64 a, .int .i64 b, .int .u8 n] w fun e w' => e = .returned (.bool true) ∧ Grown w w' := by
  rcases hc with ⟨rfl, c1, rfl, c2⟩ | ⟨rfl, c1, rfl⟩ | ⟨rfl, c1, rfl, c2⟩ | ⟨rfl, c1, rfl⟩ | ⟨c1, c2, rfl⟩
  all_goals
    go_enter Try.func5, Try.ntmps5
    go_wp2_with (first
      | ((with_reducible refine (awake_any _).mono ?_); rintro e w1 ⟨rfl, g1⟩)
      | ((with_reducible refine (d1.out _).mono ?_); rintro e w2 ⟨rfl, g2⟩)
      | ((with_reducible refine (d2.out _).mono ?_); rintro e w3 ⟨rfl, g3⟩)
      | ((with_reducible refine (d3.out _).mono ?_); rintro e w4 ⟨rfl, g4⟩)
      | ((with_reducible refine (d4.out _).mono ?_); rintro e w5 ⟨rfl, g5⟩))
    go_ret
    exact ⟨rfl, grown_trans g1 (grown_trans g2 (grown_trans g3 (grown_trans g4 g5)))⟩

theorem shifts (a b n : Int) (ha : I64 a) (hb : I64 b) (hn0 : 0 ≤ n) (hn1 : n ≤ 255) (w : World) :
    Calls Try.prog 5 #[.int .i64 a, .int .i64 b, .int .u8 n] w fun e w' => e = .returned (.bool true) ∧ Grown w w' := by
  have bd := prod_bd ha hb
  obtain ⟨P, hP⟩ : ∃ P, P = a * b := ⟨_, rfl⟩
  rw [← hP] at bd
  obtain ⟨k, hk⟩ : ∃ k, n % 62 = k := ⟨_, rfl⟩
  obtain ⟨m, rfl⟩ := Int.eq_ofNat_of_zero_le (show 0 ≤ k by omega)
  have hm : m ≤ 61 := by omega
  have sd := shift_div a b m hm
  have hp := two_pow m (by omega)
  have hp1 : (2 : Int) ^ m < 9223372036854775808 := by
    have c : ((2 : Int) ^ m) = ((2 ^ m : Nat) : Int) := by rw [Int.natCast_pow]; rfl
    have h1 : 2 ^ m ≤ 2 ^ 61 := Nat.pow_le_pow_right (by omega) hm
    rw [c]; omega
  have z1 : msv a b 0 = rv P := by rw [hP]; unfold msv; rw [if_neg (by decide)]; simp
  have z2 : mse a b 0 = re P := by rw [hP]; unfold mse; rw [if_neg (by decide)]; simp
  refine shifts_walk a b n (m : Int) (2 ^ m) (msv a b m) (mse a b m) (P / 18446744073709551616) (P % 18446744073709551616) (rv P) (re P) hn0 hn1 hk (by omega) (by omega) ?_
    (Lib.hid fun w => ms_at a b m _ _ ha hb rfl rfl w) (Lib.hid fun w => md_at a b (2 ^ m) _ _ ha hb ⟨by omega, hp1⟩ sd.1 sd.2 w) (Lib.hid fun w => mul_at a b _ _ ha hb (by rw [hP]) (by rw [hP]) w) (Lib.hid fun w => ms_at a b 0 _ _ ha hb z1 z2 w) ?_ w
  · rw [Int.toNat_natCast, IntKind.wrap_i64]; omega
  · by_cases hin : I64 P
    · rw [rv_in hin, re_in hin, IntKind.wrap_u64]
      obtain ⟨i1, i2⟩ := hin
      by_cases h0 : 0 ≤ P
      · left; refine ⟨?_, ?_, rfl, ?_⟩ <;> omega
      · right; right; left; refine ⟨?_, ?_, rfl, ?_⟩ <;> omega
    · rw [rv_out hin, re_out hin]
      have hin' : P < -9223372036854775808 ∨ 9223372036854775808 ≤ P := by
        by_cases h : -9223372036854775808 ≤ P
        · right
          apply Int.not_lt.1
          intro h2
          exact hin ⟨h, h2⟩
        · left; omega
      by_cases h0 : P / 18446744073709551616 = 0
      · right; left; refine ⟨h0, ?_, rfl⟩; omega
      · by_cases h1 : P / 18446744073709551616 = -1
        · right; right; right; left; refine ⟨h1, ?_, rfl⟩; omega
        · right; right; right; right; exact ⟨by simpa using h0, by simpa using h1, rfl⟩
end Go.Proofs.Ythiombcnbanadaa
