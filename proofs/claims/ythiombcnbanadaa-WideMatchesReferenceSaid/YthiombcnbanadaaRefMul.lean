/-
  The reference implementation of package wide: its product is the product of the magnitudes, and its Mul returns the two words of the product.
-/
import Derived.Test.YthiombcnbanadaaRefProd
import Derived.Test.YthiombcnbanadaaWideLaws
namespace Go.Proofs.Ythiombcnbanadaa
open Go.RowKit Go.Lib

theorem step_of (z x y c : Int) (hz : Dg z) (hx : Dg x) (hy : Dg y) (hc : Dg c) : ∃ z' c', Dg z' ∧ Dg c' ∧ z + x * y + c = z' + 65536 * c' ∧ St z x y c (x * y) (z + x * y) (z + x * y + c) z' c' := by
  obtain ⟨hz0, hz1⟩ := hz; obtain ⟨hx0, hx1⟩ := hx; obtain ⟨hy0, hy1⟩ := hy; obtain ⟨hc0, hc1⟩ := hc
  have p0 : 0 ≤ x * y := Int.mul_nonneg hx0 hy0
  have p1 : x * y ≤ 65535 * 65535 := Int.mul_le_mul hx1 hy1 hy0 (by omega)
  obtain ⟨p, hp⟩ : ∃ p, p = x * y := ⟨_, rfl⟩
  rw [← hp] at p0 p1 ⊢
  refine ⟨(z + p + c) % 65536, (z + p + c) / 65536, ⟨by omega, by omega⟩, ⟨by omega, by omega⟩, by omega, ?_, ?_, ?_, ?_, ?_, ?_, ?_, ?_⟩
  · rw [← hp, IntKind.wrap_u64]; omega
  · rw [IntKind.wrap_u64]; omega
  · rw [IntKind.wrap_u64]; omega
  · rw [IntKind.wrap_u64]; omega
  · rw [IntKind.wrap_u64]; omega
  · exact Int.tmod_eq_emod_of_nonneg (by omega)
  · exact Int.tdiv_eq_ediv_of_nonneg (by omega)
  · rw [IntKind.wrap_u64]; omega

theorem row_sum (p0 p1 p2 p3 z0 z1 z2 z3 n0 n1 n2 n3 c1 c2 c3 c4 : Int) (h0 : z0 + p0 + 0 = n0 + 65536 * c1) (h1 : z1 + p1 + c1 = n1 + 65536 * c2) (h2 : z2 + p2 + c2 = n2 + 65536 * c3) (h3 : z3 + p3 + c3 = n3 + 65536 * c4) :
    n0 + 65536 * n1 + 4294967296 * n2 + 281474976710656 * n3 + 18446744073709551616 * c4 = z0 + 65536 * z1 + 4294967296 * z2 + 281474976710656 * z3 + (p0 + 65536 * p1 + 4294967296 * p2 + 281474976710656 * p3) := by omega

theorem row_mul (x y0 y1 y2 y3 : Int) : x * (y0 + 65536 * y1 + 4294967296 * y2 + 281474976710656 * y3) = x * y0 + 65536 * (x * y1) + 4294967296 * (x * y2) + 281474976710656 * (x * y3) := by
  simp only [Int.mul_add, Int.mul_left_comm]
theorem mul_rows (x0 x1 x2 x3 Y : Int) : (x0 + 65536 * x1 + 4294967296 * x2 + 281474976710656 * x3) * Y = x0 * Y + 65536 * (x1 * Y) + 4294967296 * (x2 * Y) + 281474976710656 * (x3 * Y) := by
  simp only [Int.add_mul, Int.mul_assoc]

/-- The value of eight digits. -/
def val8 (z0 z1 z2 z3 z4 z5 z6 z7 : Int) : Int := z0 + 65536 * z1 + 4294967296 * z2 + 281474976710656 * z3 + 18446744073709551616 * (z4 + 65536 * z5 + 4294967296 * z6 + 281474976710656 * z7)
/-- Eight digits whose value is v. -/
def Is8 (v z0 z1 z2 z3 z4 z5 z6 z7 : Int) : Prop := Dg z0 ∧ Dg z1 ∧ Dg z2 ∧ Dg z3 ∧ Dg z4 ∧ Dg z5 ∧ Dg z6 ∧ Dg z7 ∧ val8 z0 z1 z2 z3 z4 z5 z6 z7 = v
abbrev Prods (a b z0 z1 z2 z3 z4 z5 z6 z7 : Int) : Prop := ∀ w, Calls Try.prog 19 #[.int .i64 a, .int .i64 b] w fun e w' => e = .returned (.agg #[.int .u64 z0, .int .u64 z1, .int .u64 z2, .int .u64 z3, .int .u64 z4, .int .u64 z5, .int .u64 z6, .int .u64 z7]) ∧ Grown w w'

set_option maxHeartbeats 1000000 in
theorem product_any (a b : Int) (ha : I64 a) (hb : I64 b) : ∃ z0 z1 z2 z3 z4 z5 z6 z7, Is8 (mag a * mag b) z0 z1 z2 z3 z4 z5 z6 z7 ∧ Prods a b z0 z1 z2 z3 z4 z5 z6 z7 := by
  obtain ⟨x0, x1, x2, x3, hx0, hx1, hx2, hx3, hx, dx⟩ := digits_any a ha
  obtain ⟨y0, y1, y2, y3, hy0, hy1, hy2, hy3, hy, dy⟩ := digits_any b hb
  have d0 : Dg 0 := ⟨by decide, by decide⟩
  obtain ⟨z00, c01, hz00, hc01, e00, s00⟩ := step_of 0 x0 y0 0 d0 hx0 hy0 d0
  obtain ⟨z01, c02, hz01, hc02, e01, s01⟩ := step_of 0 x0 y1 c01 d0 hx0 hy1 hc01
  obtain ⟨z02, c03, hz02, hc03, e02, s02⟩ := step_of 0 x0 y2 c02 d0 hx0 hy2 hc02
  obtain ⟨z03, c04, hz03, hc04, e03, s03⟩ := step_of 0 x0 y3 c03 d0 hx0 hy3 hc03
  obtain ⟨z10, c11, hz10, hc11, e10, s10⟩ := step_of z01 x1 y0 0 hz01 hx1 hy0 d0
  obtain ⟨z11, c12, hz11, hc12, e11, s11⟩ := step_of z02 x1 y1 c11 hz02 hx1 hy1 hc11
  obtain ⟨z12, c13, hz12, hc13, e12, s12⟩ := step_of z03 x1 y2 c12 hz03 hx1 hy2 hc12
  obtain ⟨z13, c14, hz13, hc14, e13, s13⟩ := step_of c04 x1 y3 c13 hc04 hx1 hy3 hc13
  obtain ⟨z20, c21, hz20, hc21, e20, s20⟩ := step_of z11 x2 y0 0 hz11 hx2 hy0 d0
  obtain ⟨z21, c22, hz21, hc22, e21, s21⟩ := step_of z12 x2 y1 c21 hz12 hx2 hy1 hc21
  obtain ⟨z22, c23, hz22, hc23, e22, s22⟩ := step_of z13 x2 y2 c22 hz13 hx2 hy2 hc22
  obtain ⟨z23, c24, hz23, hc24, e23, s23⟩ := step_of c14 x2 y3 c23 hc14 hx2 hy3 hc23
  obtain ⟨z30, c31, hz30, hc31, e30, s30⟩ := step_of z21 x3 y0 0 hz21 hx3 hy0 d0
  obtain ⟨z31, c32, hz31, hc32, e31, s31⟩ := step_of z22 x3 y1 c31 hz22 hx3 hy1 hc31
  obtain ⟨z32, c33, hz32, hc33, e32, s32⟩ := step_of z23 x3 y2 c32 hz23 hx3 hy2 hc32
  obtain ⟨z33, c34, hz33, hc34, e33, s33⟩ := step_of c24 x3 y3 c33 hc24 hx3 hy3 hc33
  refine ⟨z00, z10, z20, z30, z31, z32, z33, c34, ⟨hz00, hz10, hz20, hz30, hz31, hz32, hz33, hc34, ?_⟩, fun w => ?_⟩
  · have r0 := row_sum _ _ _ _ _ _ _ _ _ _ _ _ _ _ _ _ e00 e01 e02 e03
    rw [← row_mul, hy] at r0
    have r1 := row_sum _ _ _ _ _ _ _ _ _ _ _ _ _ _ _ _ e10 e11 e12 e13
    rw [← row_mul, hy] at r1
    have r2 := row_sum _ _ _ _ _ _ _ _ _ _ _ _ _ _ _ _ e20 e21 e22 e23
    rw [← row_mul, hy] at r2
    have r3 := row_sum _ _ _ _ _ _ _ _ _ _ _ _ _ _ _ _ e30 e31 e32 e33
    rw [← row_mul, hy] at r3
    have m := mul_rows x0 x1 x2 x3 (mag b)
    rw [hx] at m
    rw [m]
    unfold val8
    clear e00 e01 e02 e03 e10 e11 e12 e13 e20 e21 e22 e23 e30 e31 e32 e33
    omega
  · simp only [Int.zero_add, Int.add_zero] at s00 s01 s02 s03 s10 s20 s30
    exact product_walk a b x0 x1 x2 x3 y0 y1 y2 y3 _ _ _ _ _ _ _ _ _ _ _ _ _ _ _ _ _ _ _ _ _ _ _ _ _ _ _ _ _ _ _ _ _ _ _ _ _ _ _ _ _ _ _ _ _ _ _ _ _ _ _ _ _ _ _ _ _ _ _ _ _ _ _ _ _ _ _ _ _ _ _ _ (Lib.hid dx) (Lib.hid dy) s00 s01 s02 s03 s10 s11 s12 s13 s20 s21 s22 s23 s30 s31 s32 s33 w

/-- The words' numbers of ref.Mul, digit by digit. -/
def Up (a z b : Int) : Prop := ∃ m, IntKind.u64.wrap (a * 65536) = m ∧ IntKind.u64.wrap (m + z) = b

set_option maxRecDepth 100000 in
set_option maxHeartbeats 4000000 in
theorem refmul_walk (a b z0 z1 z2 z3 z4 z5 z6 z7 l2 l1 l0 h6 h5 h4 X Y V : Int) (n : Bool) (hn : (!decide (a < 0) == decide (b < 0)) = n) (pr : Hid (Prods a b z0 z1 z2 z3 z4 z5 z6 z7))
    (u3 : IntKind.u64.wrap z3 = z3) (u7 : IntKind.u64.wrap z7 = z7) (u2 : Up z3 z2 l2) (u1 : Up l2 z1 l1) (u0 : Up l1 z0 l0) (v6 : Up z7 z6 h6) (v5 : Up h6 z5 h5) (v4 : Up h5 z4 h4)
    (hr : (n = false ∧ IntKind.i64.wrap h4 = X ∧ l0 = Y) ∨ (n = true ∧ (l0 == 0) = true ∧ IntKind.u64.wrap (-l0) = 0 ∧ Y = 0 ∧ IntKind.u64.wrap (-h4) = V ∧ IntKind.i64.wrap V = X) ∨
      (n = true ∧ IntKind.u64.wrap (-l0) = Y ∧ (Y == 0) = false ∧ (Y != 0) = true ∧ IntKind.u64.wrap (IntKind.u64.wrap (-h4) - 1) = V ∧ IntKind.i64.wrap V = X)) (w : World) :
    Calls Try.prog 10 #[.int .i64 a, .int .i64 b] w fun e w' => e = .returned (.tuple #[.int .i64 X, .int .u64 Y]) ∧ Grown w w' := by
  obtain ⟨m2, i2, j2⟩ := u2; obtain ⟨m1, i1, j1⟩ := u1; obtain ⟨m0, i0, j0⟩ := u0
  obtain ⟨m6, i6, j6⟩ := v6; obtain ⟨m5, i5, j5⟩ := v5; obtain ⟨m4, i4, j4⟩ := v4
  rcases hr with ⟨rfl, q1, rfl⟩ | ⟨rfl, q0, q1, rfl, q3, q4⟩ | ⟨rfl, q1, q2, q3, q4, q5⟩
  all_goals
    go_enter Try.func10, Try.ntmps10
    go_wp2_with ((with_reducible refine (pr.out _).mono ?_); rintro e w1 ⟨rfl, g1⟩)
    refine wp_loop_rounds 5 ?_
    rw [rounds_succ]; go_wp2
    rw [rounds_succ]; go_wp2
    rw [rounds_succ]; go_wp2
    rw [rounds_succ]; go_wp2
    rw [rounds_succ]; go_wp2
    go_ret2
    exact ⟨rfl, g1.alloc _ _⟩

theorem up_of (a z b : Int) (ha : 0 ≤ a) (hz : Dg z) (hb : b = a * 65536 + z) (hb1 : b < 18446744073709551616) : Up a z b := by
  obtain ⟨z0, z1⟩ := hz
  refine ⟨a * 65536, ?_, ?_⟩
  · rw [IntKind.wrap_u64]; omega
  · rw [IntKind.wrap_u64]; omega

/-- What ref.Mul returns: the product's two words. -/
theorem refmul_any (a b : Int) (ha : I64 a) (hb : I64 b) (w : World) :
    Calls Try.prog 10 #[.int .i64 a, .int .i64 b] w fun e w' => e = .returned (.tuple #[.int .i64 (a * b / 18446744073709551616), .int .u64 (a * b % 18446744073709551616)]) ∧ Grown w w' := by
  obtain ⟨z0, z1, z2, z3, z4, z5, z6, z7, ⟨d0, d1, d2, d3, d4, d5, d6, d7, hv⟩, pr⟩ := product_any a b ha hb
  have hm := mag_mul a b
  have bd := prod_bd ha hb
  obtain ⟨P, hP⟩ : ∃ P, P = a * b := ⟨_, rfl⟩
  obtain ⟨M, hM⟩ : ∃ M, M = mag a * mag b := ⟨_, rfl⟩
  have p0 : 0 ≤ M := by rw [hM]; exact Int.mul_nonneg ha.mag0.1 hb.mag0.1
  obtain ⟨n, hn⟩ : ∃ n : Bool, n = (!decide (a < 0) == decide (b < 0)) := ⟨_, rfl⟩
  have hn2 : (decide (a < 0) != decide (b < 0)) = n := by rw [hn]; cases decide (a < 0) <;> cases decide (b < 0) <;> rfl
  rw [hn2, ← hP, ← hM] at hm
  rw [← hM] at hv
  rw [← hP] at bd ⊢
  obtain ⟨l2, hl2⟩ : ∃ l2, l2 = z3 * 65536 + z2 := ⟨_, rfl⟩
  obtain ⟨l1, hl1⟩ : ∃ l1, l1 = l2 * 65536 + z1 := ⟨_, rfl⟩
  obtain ⟨l0, hl0⟩ : ∃ l0, l0 = l1 * 65536 + z0 := ⟨_, rfl⟩
  obtain ⟨h6, hh6⟩ : ∃ h6, h6 = z7 * 65536 + z6 := ⟨_, rfl⟩
  obtain ⟨h5, hh5⟩ : ∃ h5, h5 = h6 * 65536 + z5 := ⟨_, rfl⟩
  obtain ⟨h4, hh4⟩ : ∃ h4, h4 = h5 * 65536 + z4 := ⟨_, rfl⟩
  have e0 := d0; have e1 := d1; have e2 := d2; have e3 := d3; have e4 := d4; have e5 := d5; have e6 := d6; have e7 := d7
  unfold Dg at e0 e1 e2 e3 e4 e5 e6 e7
  have hM2 : M = h4 * 18446744073709551616 + l0 := by unfold val8 at hv; omega
  refine refmul_walk a b z0 z1 z2 z3 z4 z5 z6 z7 l2 l1 l0 h6 h5 h4 _ _ (IntKind.u64.wrap (if l0 = 0 then -h4 else IntKind.u64.wrap (-h4) - 1)) n hn.symm (Lib.hid pr) (by rw [IntKind.wrap_u64]; omega) (by rw [IntKind.wrap_u64]; omega)
    (up_of _ _ _ (by omega) d2 hl2 (by omega)) (up_of _ _ _ (by omega) d1 hl1 (by omega)) (up_of _ _ _ (by omega) d0 hl0 (by omega)) (up_of _ _ _ (by omega) d6 hh6 (by omega)) (up_of _ _ _ (by omega) d5 hh5 (by omega)) (up_of _ _ _ (by omega) d4 hh4 (by omega)) ?_ w
  have l0b : 0 ≤ l0 ∧ l0 < 18446744073709551616 := by omega
  have h4b : 0 ≤ h4 := by omega
  clear hl2 hl1 hl0 hh6 hh5 hh4 e0 e1 e2 e3 e4 e5 e6 e7 d0 d1 d2 d3 d4 d5 d6 d7 hv
  cases n
  · left
    have e : P = M := by simpa using hm.symm
    refine ⟨rfl, ?_, by omega⟩
    rw [IntKind.wrap_i64]; omega
  · right
    have e : P = -M := by have : M = -P := by simpa using hm
                          omega
    by_cases hz : l0 = 0
    · left
      rw [if_pos hz]
      refine ⟨rfl, by simpa using hz, by rw [hz]; decide, by omega, rfl, ?_⟩
      simp only [IntKind.wrap_i64, IntKind.wrap_u64]
      omega
    · right
      rw [if_neg hz]
      have hy : P % 18446744073709551616 = 18446744073709551616 - l0 := by omega
      refine ⟨rfl, by rw [IntKind.wrap_u64]; omega, by simp; omega, by simp; omega, rfl, ?_⟩
      simp only [IntKind.wrap_i64, IntKind.wrap_u64]
      omega
end Go.Proofs.Ythiombcnbanadaa
