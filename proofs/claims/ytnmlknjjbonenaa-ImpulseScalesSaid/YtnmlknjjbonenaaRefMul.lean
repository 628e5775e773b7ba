/-
  The reference implementation of package wide: its product is the product of the magnitudes, and its Mul returns the two words of the product.
-/
import Derived.Test.YtnmlknjjbonenaaRefProd
import Derived.Test.YtnmlknjjbonenaaWideShift
import Derived.Test.YtnmlknjjbonenaaGrown
import Derived.OpenShut
import Derived.Deep.DeepCutAuto
namespace Go.Proofs.Ytnmlknjjbonenaa
open Go.RowKit Go.Lib

theorem step_of (z x y c : Int) (hz : Dg z) (hx : Dg x) (hy : Dg y) (hc : Dg c) : ∃ z' c', Dg z' ∧ Dg c' ∧ z + x * y + c = z' + 65536 * c' ∧ St z x y c (x * y) (z + x * y) (z + x * y + c) z' c' := by
  obtain ⟨hz0, hz1⟩ := hz; obtain ⟨hx0, hx1⟩ := hx; obtain ⟨hy0, hy1⟩ := hy; obtain ⟨hc0, hc1⟩ := hc
  have p0 : 0 ≤ x * y := Int.mul_nonneg hx0 hy0
  have p1 : x * y ≤ 65535 * 65535 := Int.mul_le_mul hx1 hy1 hy0 (by omega)
  obtain ⟨p, hp⟩ : ∃ p, p = x * y := ⟨_, rfl⟩
  rw [← hp] at p0 p1 ⊢
  refine ⟨(z + p + c) % 65536, (z + p + c) / 65536, ⟨by omega, by omega⟩, ⟨by omega, by omega⟩, by omega, ?_, ?_, ?_, ?_, ?_, ?_, ?_, ?_⟩
  · rw [← hp, IntKind.wrap_u64]; omega
  · rw [IntKind.wrap_u64]; omega
  · rw [IntKind.wrap_u64]; omega
  · rw [IntKind.wrap_u64]; omega
  · rw [IntKind.wrap_u64]; omega
  · exact Int.tmod_eq_emod_of_nonneg (by omega)
  · exact Int.tdiv_eq_ediv_of_nonneg (by omega)
  · rw [IntKind.wrap_u64]; omega

theorem row_sum (p0 p1 p2 p3 z0 z1 z2 z3 n0 n1 n2 n3 c1 c2 c3 c4 : Int) (h0 : z0 + p0 + 0 = n0 + 65536 * c1) (h1 : z1 + p1 + c1 = n1 + 65536 * c2) (h2 : z2 + p2 + c2 = n2 + 65536 * c3) (h3 : z3 + p3 + c3 = n3 + 65536 * c4) :
    n0 + 65536 * n1 + 4294967296 * n2 + 281474976710656 * n3 + 18446744073709551616 * c4 = z0 + 65536 * z1 + 4294967296 * z2 + 281474976710656 * z3 + (p0 + 65536 * p1 + 4294967296 * p2 + 281474976710656 * p3) := by omega

theorem row_mul (x y0 y1 y2 y3 : Int) : x * (y0 + 65536 * y1 + 4294967296 * y2 + 281474976710656 * y3) = x * y0 + 65536 * (x * y1) + 4294967296 * (x * y2) + 281474976710656 * (x * y3) := by
  simp only [Int.mul_add, Int.mul_left_comm]
theorem mul_rows (x0 x1 x2 x3 Y : Int) : (x0 + 65536 * x1 + 4294967296 * x2 + 281474976710656 * x3) * Y = x0 * Y + 65536 * (x1 * Y) + 4294967296 * (x2 * Y) + 281474976710656 * (x3 * Y) := by
  simp only [Int.add_mul, Int.mul_assoc]

/-- The value of eight digits. -/
def val8 (z0 z1 z2 z3 z4 z5 z6 z7 : Int) : Int := z0 + 65536 * z1 + 4294967296 * z2 + 281474976710656 * z3 + 18446744073709551616 * (z4 + 65536 * z5 + 4294967296 * z6 + 281474976710656 * z7)
/-- Eight digits whose value is v. -/
def Is8 (v z0 z1 z2 z3 z4 z5 z6 z7 : Int) : Prop := Dg z0 ∧ Dg z1 ∧ Dg z2 ∧ Dg z3 ∧ Dg z4 ∧ Dg z5 ∧ Dg z6 ∧ Dg z7 ∧ val8 z0 z1 z2 z3 z4 z5 z6 z7 = v
abbrev Prods (a b z0 z1 z2 z3 z4 z5 z6 z7 : Int) : Prop := ∀ w, Calls Try.prog 31 #[.int .i64 a, .int .i64 b] w fun e w' => e = .returned (.agg #[.int .u64 z0, .int .u64 z1, .int .u64 z2, .int .u64 z3, .int .u64 z4, .int .u64 z5, .int .u64 z6, .int .u64 z7]) ∧ Grown w w'

set_option maxHeartbeats 1000000 in
theorem product_any (a b : Int) (ha : I64 a) (hb : I64 b) : ∃ z0 z1 z2 z3 z4 z5 z6 z7, Is8 (mag a * mag b) z0 z1 z2 z3 z4 z5 z6 z7 ∧ Prods a b z0 z1 z2 z3 z4 z5 z6 z7 := by
  obtain ⟨x0, x1, x2, x3, hx0, hx1, hx2, hx3, hx, dx⟩ := digits_any a ha
  obtain ⟨y0, y1, y2, y3, hy0, hy1, hy2, hy3, hy, dy⟩ := digits_any b hb
  have d0 : Dg 0 := ⟨by decide, by decide⟩
  obtain ⟨z00, c01, hz00, hc01, e00, s00⟩ := step_of 0 x0 y0 0 d0 hx0 hy0 d0
  obtain ⟨z01, c02, hz01, hc02, e01, s01⟩ := step_of 0 x0 y1 c01 d0 hx0 hy1 hc01
  obtain ⟨z02, c03, hz02, hc03, e02, s02⟩ := step_of 0 x0 y2 c02 d0 hx0 hy2 hc02
  obtain ⟨z03, c04, hz03, hc04, e03, s03⟩ := step_of 0 x0 y3 c03 d0 hx0 hy3 hc03
  obtain ⟨z10, c11, hz10, hc11, e10, s10⟩ := step_of z01 x1 y0 0 hz01 hx1 hy0 d0
  obtain ⟨z11, c12, hz11, hc12, e11, s11⟩ := step_of z02 x1 y1 c11 hz02 hx1 hy1 hc11
  obtain ⟨z12, c13, hz12, hc13, e12, s12⟩ := step_of z03 x1 y2 c12 hz03 hx1 hy2 hc12
  obtain ⟨z13, c14, hz13, hc14, e13, s13⟩ := step_of c04 x1 y3 c13 hc04 hx1 hy3 hc13
  obtain ⟨z20, c21, hz20, hc21, e20, s20⟩ := step_of z11 x2 y0 0 hz11 hx2 hy0 d0
  obtain ⟨z21, c22, hz21, hc22, e21, s21⟩ := step_of z12 x2 y1 c21 hz12 hx2 hy1 hc21
  obtain ⟨z22, c23, hz22, hc23, e22, s22⟩ := step_of z13 x2 y2 c22 hz13 hx2 hy2 hc22
  obtain ⟨z23, c24, hz23, hc24, e23, s23⟩ := step_of c14 x2 y3 c23 hc14 hx2 hy3 hc23
  obtain ⟨z30, c31, hz30, hc31, e30, s30⟩ := step_of z21 x3 y0 0 hz21 hx3 hy0 d0
  obtain ⟨z31, c32, hz31, hc32, e31, s31⟩ := step_of z22 x3 y1 c31 hz22 hx3 hy1 hc31
  obtain ⟨z32, c33, hz32, hc33, e32, s32⟩ := step_of z23 x3 y2 c32 hz23 hx3 hy2 hc32
  obtain ⟨z33, c34, hz33, hc34, e33, s33⟩ := step_of c24 x3 y3 c33 hc24 hx3 hy3 hc33
  refine ⟨z00, z10, z20, z30, z31, z32, z33, c34, ⟨hz00, hz10, hz20, hz30, hz31, hz32, hz33, hc34, ?_⟩, fun w => ?_⟩
  · have r0 := row_sum _ _ _ _ _ _ _ _ _ _ _ _ _ _ _ _ e00 e01 e02 e03
    rw [← row_mul, hy] at r0
    have r1 := row_sum _ _ _ _ _ _ _ _ _ _ _ _ _ _ _ _ e10 e11 e12 e13
    rw [← row_mul, hy] at r1
    have r2 := row_sum _ _ _ _ _ _ _ _ _ _ _ _ _ _ _ _ e20 e21 e22 e23
    rw [← row_mul, hy] at r2
    have r3 := row_sum _ _ _ _ _ _ _ _ _ _ _ _ _ _ _ _ e30 e31 e32 e33
    rw [← row_mul, hy] at r3
    have m := mul_rows x0 x1 x2 x3 (mag b)
    rw [hx] at m
    rw [m]
    unfold val8
    clear e00 e01 e02 e03 e10 e11 e12 e13 e20 e21 e22 e23 e30 e31 e32 e33
    omega
  · simp only [Int.zero_add, Int.add_zero] at s00 s01 s02 s03 s10 s20 s30
    exact product_walk a b x0 x1 x2 x3 y0 y1 y2 y3 _ _ _ _ _ _ _ _ _ _ _ _ _ _ _ _ _ _ _ _ _ _ _ _ _ _ _ _ _ _ _ _ _ _ _ _ _ _ _ _ _ _ _ _ _ _ _ _ _ _ _ _ _ _ _ _ _ _ _ _ _ _ _ _ _ _ _ _ _ _ _ _ (Lib.hid dx) (Lib.hid dy) s00 s01 s02 s03 s10 s11 s12 s13 s20 s21 s22 s23 s30 s31 s32 s33 w

end Go.Proofs.Ytnmlknjjbonenaa
