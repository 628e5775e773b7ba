import Derived.Test.YtaknmlohnifcdaaGreatDoorMRefProd
import Derived.Test.YtaknmlohnifcdaaGreatDoorJ02MSeq
import Derived.Test.YtaknmlohnifcdaaGreatDoorJ00MBits
import Derived.OpenShut
import Derived.Deep.DeepCutAuto
import Derived.Test.YtaknmlohnifcdaaGreatDoorJ04MSortMath
import Derived.Deep.QuietTactic
import Derived.BigQuiet
set_option maxHeartbeats 4000000
set_option maxRecDepth 100000
namespace Go.Proofs.YtaknmlohnifcdaaGreatDoor
open Go.RowKit Go.Lib
theorem step_of (z x y c : Int) (hz : Dg z) (hx : Dg x) (hy : Dg y) (hc : Dg c) : ∃ z' c', Dg z' ∧ Dg c' ∧ z + x * y + c = z' + 65536 * c' ∧ St z x y c (x * y) (z + x * y) (z + x * y + c) z' c' := by
 obtain ⟨hz0, hz1⟩ := hz; obtain ⟨hx0, hx1⟩ := hx; obtain ⟨hy0, hy1⟩ := hy; obtain ⟨hc0, hc1⟩ := hc
 have p0 : 0 ≤ x * y := Int.mul_nonneg hx0 hy0
 have p1 : x * y ≤ 65535 * 65535 := Int.mul_le_mul hx1 hy1 hy0 (by omega)
 obtain ⟨p, hp⟩ : ∃ p, p = x * y := ⟨_, rfl⟩
 rw [← hp] at p0 p1 ⊢
 refine ⟨(z + p + c) % 65536, (z + p + c) / 65536, ⟨by omega, by omega⟩, ⟨by omega, by omega⟩, by omega, ?_, ?_, ?_, ?_, ?_, ?_, ?_, ?_⟩
 ·rw [← hp, IntKind.wrap_u64]; omega
 ·rw [IntKind.wrap_u64]; omega
 ·rw [IntKind.wrap_u64]; omega
 ·rw [IntKind.wrap_u64]; omega
 ·rw [IntKind.wrap_u64]; omega
 ·exact Int.tmod_eq_emod_of_nonneg (by omega)
 ·exact Int.tdiv_eq_ediv_of_nonneg (by omega)
 ·rw [IntKind.wrap_u64]; omega

theorem row_sum (p0 p1 p2 p3 z0 z1 z2 z3 n0 n1 n2 n3 c1 c2 c3 c4 : Int) (h0 : z0 + p0 + 0 = n0 + 65536 * c1) (h1 : z1 + p1 + c1 = n1 + 65536 * c2) (h2 : z2 + p2 + c2 = n2 + 65536 * c3) (h3 : z3 + p3 + c3 = n3 + 65536 * c4) :
 n0 + 65536 * n1 + 4294967296 * n2 + 281474976710656 * n3 + 18446744073709551616 * c4 = z0 + 65536 * z1 + 4294967296 * z2 + 281474976710656 * z3 + (p0 + 65536 * p1 + 4294967296 * p2 + 281474976710656 * p3) := by omega

theorem row_mul (x y0 y1 y2 y3 : Int) : x * (y0 + 65536 * y1 + 4294967296 * y2 + 281474976710656 * y3) = x * y0 + 65536 * (x * y1) + 4294967296 * (x * y2) + 281474976710656 * (x * y3) := by
 simp only [Int.mul_add, Int.mul_left_comm]
theorem mul_rows (x0 x1 x2 x3 Y : Int) : (x0 + 65536 * x1 + 4294967296 * x2 + 281474976710656 * x3) * Y = x0 * Y + 65536 * (x1 * Y) + 4294967296 * (x2 * Y) + 281474976710656 * (x3 * Y) := by
 simp only [Int.add_mul, Int.mul_assoc]

def val8 (z0 z1 z2 z3 z4 z5 z6 z7 : Int) : Int := z0 + 65536 * z1 + 4294967296 * z2 + 281474976710656 * z3 + 18446744073709551616 * (z4 + 65536 * z5 + 4294967296 * z6 + 281474976710656 * z7)
def Is8 (v z0 z1 z2 z3 z4 z5 z6 z7 : Int) : Prop := Dg z0 ∧ Dg z1 ∧ Dg z2 ∧ Dg z3 ∧ Dg z4 ∧ Dg z5 ∧ Dg z6 ∧ Dg z7 ∧ val8 z0 z1 z2 z3 z4 z5 z6 z7 = v
abbrev Prods (a b z0 z1 z2 z3 z4 z5 z6 z7 : Int) : Prop := ∀ w, Calls Tryz.prog 135 #[.int .i64 a, .int .i64 b] w fun e w' => e = .returned (.agg #[.int .u64 z0, .int .u64 z1, .int .u64 z2, .int .u64 z3, .int .u64 z4, .int .u64 z5, .int .u64 z6, .int .u64 z7]) ∧ Grown w w'

theorem product_any (a b : Int) (ha : I64 a) (hb : I64 b) : ∃ z0 z1 z2 z3 z4 z5 z6 z7, Is8 (mag a * mag b) z0 z1 z2 z3 z4 z5 z6 z7 ∧ Prods a b z0 z1 z2 z3 z4 z5 z6 z7 := by
 obtain ⟨x0, x1, x2, x3, hx0, hx1, hx2, hx3, hx, dx⟩ := digits_any a ha
 obtain ⟨y0, y1, y2, y3, hy0, hy1, hy2, hy3, hy, dy⟩ := digits_any b hb
 have d0 : Dg 0 := ⟨by decide, by decide⟩
 obtain ⟨z00, c01, hz00, hc01, e00, s00⟩ := step_of 0 x0 y0 0 d0 hx0 hy0 d0
 obtain ⟨z01, c02, hz01, hc02, e01, s01⟩ := step_of 0 x0 y1 c01 d0 hx0 hy1 hc01
 obtain ⟨z02, c03, hz02, hc03, e02, s02⟩ := step_of 0 x0 y2 c02 d0 hx0 hy2 hc02
 obtain ⟨z03, c04, hz03, hc04, e03, s03⟩ := step_of 0 x0 y3 c03 d0 hx0 hy3 hc03
 obtain ⟨z10, c11, hz10, hc11, e10, s10⟩ := step_of z01 x1 y0 0 hz01 hx1 hy0 d0
 obtain ⟨z11, c12, hz11, hc12, e11, s11⟩ := step_of z02 x1 y1 c11 hz02 hx1 hy1 hc11
 obtain ⟨z12, c13, hz12, hc13, e12, s12⟩ := step_of z03 x1 y2 c12 hz03 hx1 hy2 hc12
 obtain ⟨z13, c14, hz13, hc14, e13, s13⟩ := step_of c04 x1 y3 c13 hc04 hx1 hy3 hc13
 obtain ⟨z20, c21, hz20, hc21, e20, s20⟩ := step_of z11 x2 y0 0 hz11 hx2 hy0 d0
 obtain ⟨z21, c22, hz21, hc22, e21, s21⟩ := step_of z12 x2 y1 c21 hz12 hx2 hy1 hc21
 obtain ⟨z22, c23, hz22, hc23, e22, s22⟩ := step_of z13 x2 y2 c22 hz13 hx2 hy2 hc22
 obtain ⟨z23, c24, hz23, hc24, e23, s23⟩ := step_of c14 x2 y3 c23 hc14 hx2 hy3 hc23
 obtain ⟨z30, c31, hz30, hc31, e30, s30⟩ := step_of z21 x3 y0 0 hz21 hx3 hy0 d0
 obtain ⟨z31, c32, hz31, hc32, e31, s31⟩ := step_of z22 x3 y1 c31 hz22 hx3 hy1 hc31
 obtain ⟨z32, c33, hz32, hc33, e32, s32⟩ := step_of z23 x3 y2 c32 hz23 hx3 hy2 hc32
 obtain ⟨z33, c34, hz33, hc34, e33, s33⟩ := step_of c24 x3 y3 c33 hc24 hx3 hy3 hc33
 refine ⟨z00, z10, z20, z30, z31, z32, z33, c34, ⟨hz00, hz10, hz20, hz30, hz31, hz32, hz33, hc34, ?_⟩, fun w => ?_⟩
 ·have r0 := row_sum _ _ _ _ _ _ _ _ _ _ _ _ _ _ _ _ e00 e01 e02 e03
  rw [← row_mul, hy] at r0
  have r1 := row_sum _ _ _ _ _ _ _ _ _ _ _ _ _ _ _ _ e10 e11 e12 e13
  rw [← row_mul, hy] at r1
  have r2 := row_sum _ _ _ _ _ _ _ _ _ _ _ _ _ _ _ _ e20 e21 e22 e23
  rw [← row_mul, hy] at r2
  have r3 := row_sum _ _ _ _ _ _ _ _ _ _ _ _ _ _ _ _ e30 e31 e32 e33
  rw [← row_mul, hy] at r3
  have m := mul_rows x0 x1 x2 x3 (mag b)
  rw [hx] at m
  rw [m]
  unfold val8
  clear e00 e01 e02 e03 e10 e11 e12 e13 e20 e21 e22 e23 e30 e31 e32 e33
  omega
 ·simp only [Int.zero_add, Int.add_zero] at s00 s01 s02 s03 s10 s20 s30
  exact product_walk a b x0 x1 x2 x3 y0 y1 y2 y3 _ _ _ _ _ _ _ _ _ _ _ _ _ _ _ _ _ _ _ _ _ _ _ _ _ _ _ _ _ _ _ _ _ _ _ _ _ _ _ _ _ _ _ _ _ _ _ _ _ _ _ _ _ _ _ _ _ _ _ _ _ _ _ _ _ _ _ _ _ _ _ _ (Lib.hid dx) (Lib.hid dy) s00 s01 s02 s03 s10 s11 s12 s13 s20 s21 s22 s23 s30 s31 s32 s33 w
theorem halve (z : Int) (m : Nat) : z / 2 ^ m / 2 = z / 2 ^ (m + 1) := by
 rw [Int.pow_succ, Int.ediv_ediv_of_nonneg (Int.le_of_lt (Int.pow_pos (by decide)))]

theorem bit_walk (z0 z1 z2 z3 z4 z5 z6 z7 zj i j r B : Int) (hj : (j = 0 ∧ zj = z0) ∨ (j = 1 ∧ zj = z1) ∨ (j = 2 ∧ zj = z2) ∨ (j = 3 ∧ zj = z3) ∨ (j = 4 ∧ zj = z4) ∨ (j = 5 ∧ zj = z5) ∨ (j = 6 ∧ zj = z6) ∨ (j = 7 ∧ zj = z7))
 (i1 : i.tdiv 16 = j) (i2 : i / 16 = j) (i3 : i.tmod 16 = r) (i4 : i % 16 = r) (hr0 : 0 ≤ r) (_hr1 : r ≤ 15) (hz : Hid (Dg zj)) (hB : Hid (B = zj / 2 ^ r.toNat % 2)) (w : World) :
 Calls Tryz.prog 165 #[.agg #[.int .u64 z0, .int .u64 z1, .int .u64 z2, .int .u64 z3, .int .u64 z4, .int .u64 z5, .int .u64 z6, .int .u64 z7], .int .i64 i] w fun e w' => e = .returned (.int .u64 B) ∧ Grown w w' := by
 rcases hj with ⟨rfl, rfl⟩ | ⟨rfl, rfl⟩ | ⟨rfl, rfl⟩ | ⟨rfl, rfl⟩ | ⟨rfl, rfl⟩ | ⟨rfl, rfl⟩ | ⟨rfl, rfl⟩ | ⟨rfl, rfl⟩
 all_goals
  go_enter Tryz.func165, Tryz.ntmps165
  go_wp2
  go_loop [5, 6] (fun n k => ∃ (m : Nat) (ni ki : Int), n = .int .u64 ni ∧ k = .int .i64 ki ∧ 0 ≤ ki ∧ ki ≤ r ∧ Hid (ki = m ∧ ni = zj / 2 ^ m ∧ 0 ≤ ni ∧ ni ≤ 65535)) (fun _ k => (r - RowKit.intOf k).toNat)
  case atStart => exact ⟨0, _, _, rfl, rfl, by omega, by omega, Lib.hid ⟨rfl, by simp, hz.out⟩⟩
  case round =>
   obtain ⟨m, ni, ki, rfl, rfl, hk0, hk1, H⟩ := hrel
   obtain ⟨n', hn'⟩ : ∃ n', n' = ni / 2 := ⟨_, rfl⟩
   have hn1 := H.out.2.2.1
   have f1 : ni.tdiv 2 = n' := by rw [Int.tdiv_eq_ediv_of_nonneg hn1, hn']
   have f2 : ni / 2 = n' := hn'.symm
   have HN := Lib.hid hn'
   clear hn'
   by_cases hc : ki < r
   ·obtain ⟨k', hk'⟩ : ∃ k', k' = ki + 1 := ⟨_, rfl⟩
    have f4 : wrap64 (ki + 1) = k' := by unfold wrap64; omega
    have f5 : IntKind.u64.wrap n' = n' := by rw [IntKind.wrap_u64]; have := H.out.2.2; have := HN.out; omega
    have HK := Lib.hid hk'
    clear hk'
    go_wp2
    go_round
    case rel =>
     obtain ⟨x1, x2, x3, x4⟩ := H.out
     have y1 := HN.out; have y2 := HK.out
     exact ⟨m + 1, _, _, rfl, rfl, by omega, by omega, Lib.hid ⟨by omega, by rw [y1, x2]; exact halve _ m, by omega, by omega⟩⟩
    case measure => have y2 := HK.out; simp [RowKit.intOf]; omega
   ·obtain ⟨B', hB'⟩ : ∃ B', B' = ni % 2 := ⟨_, rfl⟩
    have f6 : ni % 2 = B' := hB'.symm
    have f7 : ni.tmod 2 = B' := by rw [Int.tmod_eq_emod_of_nonneg hn1, f6]
    have HB := Lib.hid hB'
    clear hB' hn1
    go_wp2
    go_ret
    obtain ⟨x1, x2, x3, x4⟩ := H.out
    have e : r.toNat = m := by omega
    have eB : B' = B := by rw [hB.out, e, ← x2, HB.out]
    exact ⟨congrArg (fun x => Ending.returned (.int .u64 x)) eB, by repeat (first | exact Grown.refl _ | apply Grown.drew | apply Grown.alloc)⟩

theorem bit16 (z up : Int) (r : Nat) (hr : r ≤ 15) : (z + 65536 * up) / 2 ^ r % 2 = z / 2 ^ r % 2 := by
 have h : r = 0 ∨ r = 1 ∨ r = 2 ∨ r = 3 ∨ r = 4 ∨ r = 5 ∨ r = 6 ∨ r = 7 ∨ r = 8 ∨ r = 9 ∨ r = 10 ∨ r = 11 ∨ r = 12 ∨ r = 13 ∨ r = 14 ∨ r = 15 := by omega
 rcases h with rfl | rfl | rfl | rfl | rfl | rfl | rfl | rfl | rfl | rfl | rfl | rfl | rfl | rfl | rfl | rfl
 all_goals omega

theorem bit_at (V z up K : Int) (j r : Nat) (hr : r ≤ 15) (hK : K = 2 ^ (16 * j)) (hV : V / K = z + 65536 * up) : V / 2 ^ (16 * j + r) % 2 = z / 2 ^ r % 2 := by
 rw [Int.pow_add, ← Int.ediv_ediv_of_nonneg (Int.le_of_lt (Int.pow_pos (by decide))), ← hK, hV]
 exact bit16 z up r hr

theorem bit_any (V z0 z1 z2 z3 z4 z5 z6 z7 B : Int) (n : Nat) (h8 : Is8 V z0 z1 z2 z3 z4 z5 z6 z7) (hn : n ≤ 127) (hB : B = V / 2 ^ n % 2) (w : World) :
 Calls Tryz.prog 165 #[.agg #[.int .u64 z0, .int .u64 z1, .int .u64 z2, .int .u64 z3, .int .u64 z4, .int .u64 z5, .int .u64 z6, .int .u64 z7], .int .i64 (n : Int)] w fun e w' => e = .returned (.int .u64 B) ∧ Grown w w' := by
 obtain ⟨j, hj⟩ : ∃ j, j = n / 16 := ⟨_, rfl⟩
 obtain ⟨r, hr⟩ : ∃ r, r = n % 16 := ⟨_, rfl⟩
 have hnj : n = 16 * j + r := by omega
 have hr15 : r ≤ 15 := by omega
 obtain ⟨d0, d1, d2, d3, d4, d5, d6, d7, hv⟩ := h8
 have i1 : (n : Int).tdiv 16 = (j : Int) := by rw [Int.tdiv_eq_ediv_of_nonneg (by omega)]; omega
 have i2 : (n : Int) / 16 = (j : Int) := by omega
 have i3 : (n : Int).tmod 16 = (r : Int) := by rw [Int.tmod_eq_emod_of_nonneg (by omega)]; omega
 have i4 : (n : Int) % 16 = (r : Int) := by omega
 have e0 := d0; have e1 := d1; have e2 := d2; have e3 := d3; have e4 := d4; have e5 := d5; have e6 := d6; have e7 := d7
 unfold Dg at e0 e1 e2 e3 e4 e5 e6 e7
 unfold val8 at hv
 rw [hnj] at hB
 have hjc : j = 0 ∨ j = 1 ∨ j = 2 ∨ j = 3 ∨ j = 4 ∨ j = 5 ∨ j = 6 ∨ j = 7 := by omega
 rcases hjc with rfl | rfl | rfl | rfl | rfl | rfl | rfl | rfl
 ·refine bit_walk z0 z1 z2 z3 z4 z5 z6 z7 z0 n _ r B (.inl ⟨rfl, rfl⟩) i1 i2 i3 i4 (by omega) (by omega) (Lib.hid d0) (Lib.hid ?_) w
  rw [hB, Int.toNat_natCast]
  exact bit_at V z0 (z1 + 65536 * z2 + 4294967296 * z3 + 281474976710656 * z4 + 18446744073709551616 * z5 + 1208925819614629174706176 * z6 + 79228162514264337593543950336 * z7) 1 0 r hr15 (by decide) (by omega)
 ·refine bit_walk z0 z1 z2 z3 z4 z5 z6 z7 z1 n _ r B (.inr (.inl ⟨rfl, rfl⟩)) i1 i2 i3 i4 (by omega) (by omega) (Lib.hid d1) (Lib.hid ?_) w
  rw [hB, Int.toNat_natCast]
  exact bit_at V z1 (z2 + 65536 * z3 + 4294967296 * z4 + 281474976710656 * z5 + 18446744073709551616 * z6 + 1208925819614629174706176 * z7) 65536 1 r hr15 (by decide) (by omega)
 ·refine bit_walk z0 z1 z2 z3 z4 z5 z6 z7 z2 n _ r B (.inr (.inr (.inl ⟨rfl, rfl⟩))) i1 i2 i3 i4 (by omega) (by omega) (Lib.hid d2) (Lib.hid ?_) w
  rw [hB, Int.toNat_natCast]
  exact bit_at V z2 (z3 + 65536 * z4 + 4294967296 * z5 + 281474976710656 * z6 + 18446744073709551616 * z7) 4294967296 2 r hr15 (by decide) (by omega)
 ·refine bit_walk z0 z1 z2 z3 z4 z5 z6 z7 z3 n _ r B (.inr (.inr (.inr (.inl ⟨rfl, rfl⟩)))) i1 i2 i3 i4 (by omega) (by omega) (Lib.hid d3) (Lib.hid ?_) w
  rw [hB, Int.toNat_natCast]
  exact bit_at V z3 (z4 + 65536 * z5 + 4294967296 * z6 + 281474976710656 * z7) 281474976710656 3 r hr15 (by decide) (by omega)
 ·refine bit_walk z0 z1 z2 z3 z4 z5 z6 z7 z4 n _ r B (.inr (.inr (.inr (.inr (.inl ⟨rfl, rfl⟩))))) i1 i2 i3 i4 (by omega) (by omega) (Lib.hid d4) (Lib.hid ?_) w
  rw [hB, Int.toNat_natCast]
  exact bit_at V z4 (z5 + 65536 * z6 + 4294967296 * z7) 18446744073709551616 4 r hr15 (by decide) (by omega)
 ·refine bit_walk z0 z1 z2 z3 z4 z5 z6 z7 z5 n _ r B (.inr (.inr (.inr (.inr (.inr (.inl ⟨rfl, rfl⟩)))))) i1 i2 i3 i4 (by omega) (by omega) (Lib.hid d5) (Lib.hid ?_) w
  rw [hB, Int.toNat_natCast]
  exact bit_at V z5 (z6 + 65536 * z7) 1208925819614629174706176 5 r hr15 (by decide) (by omega)
 ·refine bit_walk z0 z1 z2 z3 z4 z5 z6 z7 z6 n _ r B (.inr (.inr (.inr (.inr (.inr (.inr (.inl ⟨rfl, rfl⟩))))))) i1 i2 i3 i4 (by omega) (by omega) (Lib.hid d6) (Lib.hid ?_) w
  rw [hB, Int.toNat_natCast]
  exact bit_at V z6 (z7) 79228162514264337593543950336 6 r hr15 (by decide) (by omega)
 ·refine bit_walk z0 z1 z2 z3 z4 z5 z6 z7 z7 n _ r B (.inr (.inr (.inr (.inr (.inr (.inr (.inr (⟨rfl, rfl⟩)))))))) i1 i2 i3 i4 (by omega) (by omega) (Lib.hid d7) (Lib.hid ?_) w
  rw [hB, Int.toNat_natCast]
  exact bit_at V z7 (0) 5192296858534827628530496329220096 7 r hr15 (by decide) (by omega)
def DivInv (V d : Int) (k : Nat) (q r : Int) (sm : Bool) : Prop := r = V / 2 ^ k % d ∧ q = V / 2 ^ k / d % 18446744073709551616 ∧ sm = decide (V / 2 ^ k / d < 18446744073709551616)

theorem two_bits (V : Int) (k : Nat) : V / 2 ^ k = 2 * (V / 2 ^ (k + 1)) + V / 2 ^ k % 2 := by
 have h : V / 2 ^ (k + 1) = V / 2 ^ k / 2 := (halve V k).symm
 rw [h]
 omega

theorem div_unique {A d Q R : Int} (h : A = d * Q + R) (h0 : 0 ≤ R) (h1 : R < d) : A / d = Q ∧ A % d = R := by
 rw [Int.ediv_emod_unique (by omega)]
 omega

theorem div_step {V d q r : Int} {k : Nat} {sm : Bool} (hV : 0 ≤ V) (hd : 0 < d) (h : DivInv V d (k + 1) q r sm) :
 (0 ≤ r ∧ r < d ∧ 0 ≤ q ∧ q < 18446744073709551616) ∧
 (d ≤ 2 * r + V / 2 ^ k % 2 → DivInv V d k ((2 * q + 1) % 18446744073709551616) (2 * r + V / 2 ^ k % 2 - d) (sm && decide (q < 9223372036854775808))) ∧
 (2 * r + V / 2 ^ k % 2 < d → DivInv V d k (2 * q % 18446744073709551616) (2 * r + V / 2 ^ k % 2) (sm && decide (q < 9223372036854775808))) := by
 obtain ⟨hr, hq, hs⟩ := h
 have hA := two_bits V k
 obtain ⟨A, eA⟩ : ∃ A, A = V / 2 ^ (k + 1) := ⟨_, rfl⟩
 have hA0 : 0 ≤ A := by rw [eA]; exact Int.ediv_nonneg hV (Int.le_of_lt (Int.pow_pos (by decide)))
 obtain ⟨b, eb⟩ : ∃ b, b = V / 2 ^ k % 2 := ⟨_, rfl⟩
 have b0 : 0 ≤ b ∧ b ≤ 1 := by omega
 unfold DivInv
 rw [← eA] at hr hq hs
 rw [← eb, ← eA] at hA
 rw [← eb]
 clear eb eA
 have r0 := Int.emod_nonneg A (show d ≠ 0 by omega)
 have r1 := Int.emod_lt_of_pos A hd
 have hm := Int.mul_ediv_add_emod A d
 obtain ⟨Q, eQ⟩ : ∃ Q, Q = A / d := ⟨_, rfl⟩
 have hQ0 : 0 ≤ Q := by rw [eQ]; exact Int.ediv_nonneg hA0 (by omega)
 rw [← eQ] at hq hs hm
 rw [← hr] at r0 r1 hm
 have hs' : (sm && decide (q < 9223372036854775808)) = decide (Q < 9223372036854775808) := by
  rw [hs, ← Bool.decide_and]
  apply decide_eq_decide.2
  omega
 have m1 : d * (2 * Q + 1) = 2 * (d * Q) + d := by rw [Int.mul_add, Int.mul_left_comm, Int.mul_one]
 have m2 : d * (2 * Q) = 2 * (d * Q) := Int.mul_left_comm _ _ _
 refine ⟨⟨r0, r1, by omega, by omega⟩, ?_, ?_⟩
 ·intro ht
  have u := div_unique (A := V / 2 ^ k) (d := d) (Q := 2 * Q + 1) (R := 2 * r + b - d) (by omega) (by omega) (by omega)
  rw [u.1, u.2, hs']
  refine ⟨rfl, by omega, decide_eq_decide.2 (by omega)⟩
 ·intro ht
  have u := div_unique (A := V / 2 ^ k) (d := d) (Q := 2 * Q) (R := 2 * r + b) (by omega) (by omega) (by omega)
  rw [u.1, u.2, hs']
  refine ⟨rfl, by omega, decide_eq_decide.2 (by omega)⟩

theorem grown_cell {w w' : World} (h : Grown w w') {b o : Nat} {v : Value} (hb : b < w.heap.size) (hc : w.cell? ⟨b, o, none⟩ = some v) : w'.cell? ⟨b, o, none⟩ = some v := by
 rw [World.keptBut.cell h.1 hb (fun f => f), hc]

def Cells8 (w : World) (b : Nat) (z0 z1 z2 z3 z4 z5 z6 z7 : Int) : Prop := b < w.heap.size ∧ w.cell? ⟨b, 0, none⟩ = some (.int .u64 z0) ∧ w.cell? ⟨b, 1, none⟩ = some (.int .u64 z1) ∧ w.cell? ⟨b, 2, none⟩ = some (.int .u64 z2) ∧ w.cell? ⟨b, 3, none⟩ = some (.int .u64 z3) ∧
 w.cell? ⟨b, 4, none⟩ = some (.int .u64 z4) ∧ w.cell? ⟨b, 5, none⟩ = some (.int .u64 z5) ∧ w.cell? ⟨b, 6, none⟩ = some (.int .u64 z6) ∧ w.cell? ⟨b, 7, none⟩ = some (.int .u64 z7)
theorem Cells8.grown {w w' : World} {b : Nat} {z0 z1 z2 z3 z4 z5 z6 z7 : Int} (h : Cells8 w b z0 z1 z2 z3 z4 z5 z6 z7) (g : Grown w w') : Cells8 w' b z0 z1 z2 z3 z4 z5 z6 z7 := by
 obtain ⟨hb, c0, c1, c2, c3, c4, c5, c6, c7⟩ := h
 exact ⟨Nat.lt_of_lt_of_le hb g.2.2, grown_cell g hb c0, grown_cell g hb c1, grown_cell g hb c2, grown_cell g hb c3, grown_cell g hb c4, grown_cell g hb c5, grown_cell g hb c6, grown_cell g hb c7⟩

theorem Is8.bound {V z0 z1 z2 z3 z4 z5 z6 z7 : Int} (h : Is8 V z0 z1 z2 z3 z4 z5 z6 z7) : V < 340282366920938463463374607431768211456 := by
 obtain ⟨d0, d1, d2, d3, d4, d5, d6, d7, hv⟩ := h
 unfold Dg at d0 d1 d2 d3 d4 d5 d6 d7
 unfold val8 at hv
 omega

theorem divide_any (V z0 z1 z2 z3 z4 z5 z6 z7 d : Int) (h8 : Hid (Is8 V z0 z1 z2 z3 z4 z5 z6 z7)) (hV : 0 ≤ V) (hd0 : 0 < d) (hd1 : d < 18446744073709551616) (w : World) :
 Calls Tryz.prog 134 #[.agg #[.int .u64 z0, .int .u64 z1, .int .u64 z2, .int .u64 z3, .int .u64 z4, .int .u64 z5, .int .u64 z6, .int .u64 z7], .int .u64 d] w fun e w' =>
  e = .returned (.tuple #[.int .u64 (V / d % 18446744073709551616), .int .u64 (V % d), .bool (decide (V / d < 18446744073709551616))]) ∧ Grown w w' := by
 go_enter Tryz.func134, Tryz.ntmps134
 go_wp2
 go_loopg [7, 8, 9, 10] 128 (fun k s7 s8 s9 s10 wr => ∃ (q r i : Int) (sm : Bool), s7 = .int .u64 q ∧ s8 = .int .u64 r ∧ s9 = .bool sm ∧ s10 = .int .i64 i ∧ Hid (i = (k : Int) - 1 ∧ k ≤ 128 ∧ DivInv V d k q r sm ∧ Cells8 wr w.heap.size z0 z1 z2 z3 z4 z5 z6 z7 ∧ Grown w wr))
 case atStart =>
  refine ⟨_, _, _, _, rfl, rfl, rfl, rfl, Lib.hid ⟨by decide, Nat.le_refl _, ?_, ⟨by simp, ?_⟩, (Grown.refl _).alloc _ _⟩⟩
  ·have hb := Is8.bound h8.out
   have e : V / 2 ^ 128 = 0 := Int.ediv_eq_zero_of_lt hV (by omega)
   unfold DivInv
   rw [e]
   simp
  ·simp [World.cell?_alloc_new]
 case round =>
  obtain ⟨q, r, i, sm, rfl, rfl, rfl, rfl, H⟩ := hrel
  obtain ⟨hi, hk, hinv, hcc, hg⟩ := H.out
  obtain ⟨_, c0, c1, c2, c3, c4, c5, c6, c7⟩ := hcc
  have hcc := H.out.2.2.2.1
  by_cases hc : 0 ≤ i
  ·obtain ⟨n, rfl⟩ : ∃ n, gk = n + 1 := ⟨gk - 1, by omega⟩
   have hs := div_step hV hd0 hinv
   obtain ⟨B, hB⟩ : ∃ B, B = V / 2 ^ n % 2 := ⟨_, rfl⟩
   rw [← hB] at hs
   have hb := Lib.hid (fun w => bit_any V z0 z1 z2 z3 z4 z5 z6 z7 B n h8.out (by omega) hB w)
   have hin : i = (n : Int) := by omega
   rw [← hin] at hb
   obtain ⟨⟨r0, r1, q0, q1⟩, hyes, hno⟩ := hs
   have HC := Lib.hid hcc; have HG := Lib.hid hg
   have HI : Hid (wrap64 (i - 1) = (n : Int) - 1 ∧ n ≤ 128) := Lib.hid ⟨by unfold wrap64; omega, by omega⟩
   have hB01 : 0 ≤ B ∧ B ≤ 1 := by omega
   obtain ⟨r2, er2⟩ : ∃ r2, r2 = IntKind.u64.wrap (2 * r) := ⟨_, rfl⟩
   obtain ⟨T, eT⟩ : ∃ T, T = IntKind.u64.wrap (r2 + B) := ⟨_, rfl⟩
   obtain ⟨q2, eq2⟩ : ∃ q2, q2 = IntKind.u64.wrap (2 * q) := ⟨_, rfl⟩
   obtain ⟨r', er'⟩ : ∃ r', r' = IntKind.u64.wrap (T - d) := ⟨_, rfl⟩
   obtain ⟨q', eq'⟩ : ∃ q', q' = IntKind.u64.wrap (q2 + 1) := ⟨_, rfl⟩
   have k1 := er2.symm; have k2 := eT.symm; have k3 := eq2.symm; have k4 := er'.symm; have k5 := eq'.symm
   rw [IntKind.wrap_u64] at er2 eT eq2 er' eq'
   have hy : d ≤ 2 * r + B → DivInv V d n q' r' (sm && decide (q < 9223372036854775808)) := fun h => by
    have e1 : q' = (2 * q + 1) % 18446744073709551616 := by omega
    have e2 : r' = 2 * r + B - d := by omega
    rw [e1, e2]; exact hyes h
   have hn : 2 * r + B < d → DivInv V d n q2 T (sm && decide (q < 9223372036854775808)) := fun h => by
    have e2 : T = 2 * r + B := by omega
    rw [eq2, e2]; exact hno h
   have cs : (9223372036854775808 ≤ r ∧ d ≤ 2 * r + B) ∨ (¬ 9223372036854775808 ≤ r ∧ d ≤ T ∧ d ≤ 2 * r + B) ∨ (¬ 9223372036854775808 ≤ r ∧ ¬ d ≤ T ∧ 2 * r + B < d) := by omega
   clear hyes hno hin hg hinv hi hk hB hB01 er2 eT eq2 er' eq' hcc
   rcases cs with ⟨o, t⟩ | ⟨o, t, t'⟩ | ⟨o, t, t'⟩
   ·have hE := hy t
    clear hy hn t
    by_cases qq : 9223372036854775808 ≤ q
    ·have HE : Hid (DivInv V d n q' r' false) := Lib.hid (by rwa [decide_eq_false (Int.not_lt.2 qq), Bool.and_false] at hE)
     clear hE
     go_wp2_with ((with_reducible refine (hb.out _).mono ?_); rintro e w1 ⟨rfl, g1⟩)
     go_roundg n
     case measure => omega
     case rel => exact ⟨_, _, _, _, rfl, rfl, rfl, rfl, Lib.hid ⟨HI.out.1, HI.out.2, HE.out, HC.out.grown g1, grown_trans HG.out g1⟩⟩
    ·have HE : Hid (DivInv V d n q' r' sm) := Lib.hid (by rwa [decide_eq_true (Int.not_le.1 qq), Bool.and_true] at hE)
     clear hE
     go_wp2_with ((with_reducible refine (hb.out _).mono ?_); rintro e w1 ⟨rfl, g1⟩)
     go_roundg n
     case measure => omega
     case rel => exact ⟨_, _, _, _, rfl, rfl, rfl, rfl, Lib.hid ⟨HI.out.1, HI.out.2, HE.out, HC.out.grown g1, grown_trans HG.out g1⟩⟩
   ·have hE := hy t'
    clear hy hn t'
    by_cases qq : 9223372036854775808 ≤ q
    ·have HE : Hid (DivInv V d n q' r' false) := Lib.hid (by rwa [decide_eq_false (Int.not_lt.2 qq), Bool.and_false] at hE)
     clear hE
     go_wp2_with ((with_reducible refine (hb.out _).mono ?_); rintro e w1 ⟨rfl, g1⟩)
     go_roundg n
     case measure => omega
     case rel => exact ⟨_, _, _, _, rfl, rfl, rfl, rfl, Lib.hid ⟨HI.out.1, HI.out.2, HE.out, HC.out.grown g1, grown_trans HG.out g1⟩⟩
    ·have HE : Hid (DivInv V d n q' r' sm) := Lib.hid (by rwa [decide_eq_true (Int.not_le.1 qq), Bool.and_true] at hE)
     clear hE
     go_wp2_with ((with_reducible refine (hb.out _).mono ?_); rintro e w1 ⟨rfl, g1⟩)
     go_roundg n
     case measure => omega
     case rel => exact ⟨_, _, _, _, rfl, rfl, rfl, rfl, Lib.hid ⟨HI.out.1, HI.out.2, HE.out, HC.out.grown g1, grown_trans HG.out g1⟩⟩
   ·have hE := hn t'
    clear hy hn t'
    by_cases qq : 9223372036854775808 ≤ q
    ·have HE : Hid (DivInv V d n q2 T false) := Lib.hid (by rwa [decide_eq_false (Int.not_lt.2 qq), Bool.and_false] at hE)
     clear hE
     go_wp2_with ((with_reducible refine (hb.out _).mono ?_); rintro e w1 ⟨rfl, g1⟩)
     go_roundg n
     case measure => omega
     case rel => exact ⟨_, _, _, _, rfl, rfl, rfl, rfl, Lib.hid ⟨HI.out.1, HI.out.2, HE.out, HC.out.grown g1, grown_trans HG.out g1⟩⟩
    ·have HE : Hid (DivInv V d n q2 T sm) := Lib.hid (by rwa [decide_eq_true (Int.not_le.1 qq), Bool.and_true] at hE)
     clear hE
     go_wp2_with ((with_reducible refine (hb.out _).mono ?_); rintro e w1 ⟨rfl, g1⟩)
     go_roundg n
     case measure => omega
     case rel => exact ⟨_, _, _, _, rfl, rfl, rfl, rfl, Lib.hid ⟨HI.out.1, HI.out.2, HE.out, HC.out.grown g1, grown_trans HG.out g1⟩⟩
  ·have hk0 : gk = 0 := by omega
   subst hk0
   obtain ⟨hr, hq, hs⟩ := hinv
   rw [Int.pow_zero, Int.ediv_one] at hr hq hs
   have HF := Lib.hid (And.intro hr (And.intro hq (And.intro hs hg)))
   clear hr hq hs hg hi hk hcc
   go_wp2
   go_ret3
   obtain ⟨hr, hq, hs, hg⟩ := HF.out
   exact ⟨by rw [hr, hq, hs]; rfl, hg⟩
def flv (Q r : Int) (n : Bool) : Int := if n then -(Q + if 0 < r then 1 else 0) else Q

theorem floor_walk (q r X : Int) (sm n ok : Bool)
 (h : (n = false ∧ sm = true ∧ q < 9223372036854775808 ∧ IntKind.i64.wrap q = X ∧ ok = true) ∨ (n = false ∧ sm = true ∧ ¬ q < 9223372036854775808 ∧ IntKind.i64.wrap q = X ∧ ok = false) ∨ (n = false ∧ sm = false ∧ IntKind.i64.wrap q = X ∧ ok = false) ∨
   (n = true ∧ 0 < r ∧ (q == 18446744073709551615) = true ∧ X = 0 ∧ ok = false) ∨
   (n = true ∧ 0 < r ∧ (q == 18446744073709551615) = false ∧ ∃ q' m, IntKind.u64.wrap (q + 1) = q' ∧ IntKind.u64.wrap (-q') = m ∧ IntKind.i64.wrap m = X ∧ ((sm = true ∧ q' ≤ 9223372036854775808 ∧ ok = true) ∨ (sm = true ∧ ¬ q' ≤ 9223372036854775808 ∧ ok = false) ∨ (sm = false ∧ ok = false))) ∨
   (n = true ∧ ¬ 0 < r ∧ ∃ m, IntKind.u64.wrap (-q) = m ∧ IntKind.i64.wrap m = X ∧ ((sm = true ∧ q ≤ 9223372036854775808 ∧ ok = true) ∨ (sm = true ∧ ¬ q ≤ 9223372036854775808 ∧ ok = false) ∨ (sm = false ∧ ok = false)))) (w : World) :
 Calls Tryz.prog 136 #[.int .u64 q, .int .u64 r, .bool sm, .bool n] w fun e w' => e = .returned (.tuple #[.int .i64 X, .bool ok]) ∧ Grown w w' := by
 rcases h with ⟨rfl, rfl, c, e, rfl⟩ | ⟨rfl, rfl, c, e, rfl⟩ | ⟨rfl, rfl, e, rfl⟩ | ⟨rfl, c, e, rfl, rfl⟩ | ⟨rfl, c, e, q', m, f1, f2, f3, h⟩ | ⟨rfl, c, m, f2, f3, h⟩
 ·go_enter Tryz.func136, Tryz.ntmps136
  go_wp2
  go_ret2
  exact ⟨rfl, Grown.refl _⟩
 ·go_enter Tryz.func136, Tryz.ntmps136
  go_wp2
  go_ret2
  exact ⟨by simp, Grown.refl _⟩
 ·go_enter Tryz.func136, Tryz.ntmps136
  go_wp2
  go_ret2
  exact ⟨rfl, Grown.refl _⟩
 ·go_enter Tryz.func136, Tryz.ntmps136
  go_wp2
  go_ret2
  exact ⟨rfl, Grown.refl _⟩
 ·rcases h with ⟨rfl, k, rfl⟩ | ⟨rfl, k, rfl⟩ | ⟨rfl, rfl⟩
  all_goals
   go_enter Tryz.func136, Tryz.ntmps136
   go_wp2
   go_ret2
   exact ⟨by first | rfl | simp, Grown.refl _⟩
 ·rcases h with ⟨rfl, k, rfl⟩ | ⟨rfl, k, rfl⟩ | ⟨rfl, rfl⟩
  all_goals
   go_enter Tryz.func136, Tryz.ntmps136
   go_wp2
   go_ret2
   exact ⟨by first | rfl | simp, Grown.refl _⟩

theorem floor_any (Q r : Int) (n : Bool) (hQ : 0 ≤ Q) : ∃ X ok, (I64 (flv Q r n) → X = flv Q r n) ∧ ok = decide (I64 (flv Q r n)) ∧ ∀ w, Calls Tryz.prog 136 #[.int .u64 (Q % 18446744073709551616), .int .u64 r, .bool (decide (Q < 18446744073709551616)), .bool n] w fun e w' => e = .returned (.tuple #[.int .i64 X, .bool ok]) ∧ Grown w w' := by
 obtain ⟨q, hq⟩ : ∃ q, q = Q % 18446744073709551616 := ⟨_, rfl⟩
 rw [← hq]
 by_cases hs : Q < 18446744073709551616
 ·have hqQ : q = Q := by omega
  rw [decide_eq_true hs]
  cases n
  ·have e : flv Q r false = Q := rfl
   rw [e]
   by_cases c : q < 9223372036854775808
   ·have hi : I64 Q := ⟨by omega, by omega⟩
    exact ⟨_, _, fun _ => (by rw [IntKind.wrap_i64]; omega : IntKind.i64.wrap q = Q), (decide_eq_true hi).symm, fun w => floor_walk q r _ true false true (.inl ⟨rfl, rfl, c, rfl, rfl⟩) w⟩
   ·have hi : ¬ I64 Q := fun h => c (by have := h.2; omega)
    exact ⟨_, _, fun h => absurd h hi, (decide_eq_false hi).symm, fun w => floor_walk q r _ true false false (.inr (.inl ⟨rfl, rfl, c, rfl, rfl⟩)) w⟩
  ·by_cases hr0 : 0 < r
   ·have e : flv Q r true = -(Q + 1) := by unfold flv; rw [if_pos hr0]; rfl
    rw [e]
    by_cases hm : q = 18446744073709551615
    ·have hi : ¬ I64 (-(Q + 1)) := fun h => by have := h.1; omega
     exact ⟨0, _, fun h => absurd h hi, (decide_eq_false hi).symm, fun w => floor_walk q r _ true true false (.inr (.inr (.inr (.inl ⟨rfl, hr0, by simpa using hm, rfl, rfl⟩)))) w⟩
    ·by_cases c : q + 1 ≤ 9223372036854775808
     ·have hi : I64 (-(Q + 1)) := ⟨by omega, by omega⟩
      exact ⟨_, _, fun _ => (by simp only [IntKind.wrap_i64, IntKind.wrap_u64]; omega : IntKind.i64.wrap (IntKind.u64.wrap (-(q + 1))) = -(Q + 1)), (decide_eq_true hi).symm, fun w => floor_walk q r _ true true true (.inr (.inr (.inr (.inr (.inl ⟨rfl, hr0, by simpa using hm, q + 1, _, by rw [IntKind.wrap_u64]; omega, rfl, rfl, .inl ⟨rfl, c, rfl⟩⟩))))) w⟩
     ·have hi : ¬ I64 (-(Q + 1)) := fun h => c (by have := h.1; omega)
      exact ⟨_, _, fun h => absurd h hi, (decide_eq_false hi).symm, fun w => floor_walk q r _ true true false (.inr (.inr (.inr (.inr (.inl ⟨rfl, hr0, by simpa using hm, q + 1, _, by rw [IntKind.wrap_u64]; omega, rfl, rfl, .inr (.inl ⟨rfl, c, rfl⟩)⟩))))) w⟩
   ·have e : flv Q r true = -(Q + 0) := by unfold flv; rw [if_neg hr0]; rfl
    rw [e, Int.add_zero]
    by_cases c : q ≤ 9223372036854775808
    ·have hi : I64 (-Q) := ⟨by omega, by omega⟩
     exact ⟨_, _, fun _ => (by simp only [IntKind.wrap_i64, IntKind.wrap_u64]; omega : IntKind.i64.wrap (IntKind.u64.wrap (-q)) = -Q), (decide_eq_true hi).symm, fun w => floor_walk q r _ true true true (.inr (.inr (.inr (.inr (.inr ⟨rfl, hr0, _, rfl, rfl, .inl ⟨rfl, c, rfl⟩⟩))))) w⟩
    ·have hi : ¬ I64 (-Q) := fun h => c (by have := h.1; omega)
     exact ⟨_, _, fun h => absurd h hi, (decide_eq_false hi).symm, fun w => floor_walk q r _ true true false (.inr (.inr (.inr (.inr (.inr ⟨rfl, hr0, _, rfl, rfl, .inr (.inl ⟨rfl, c, rfl⟩)⟩))))) w⟩
 ·rw [decide_eq_false hs]
  have hi : ¬ I64 (flv Q r n) := fun h => by
   have h1 := h.1; have h2 := h.2
   unfold flv at h1 h2
   cases n
   ·simp at h2; omega
   ·by_cases hr0 : 0 < r
    ·simp [hr0] at h1; omega
    ·simp [hr0] at h1; omega
  cases n
  ·exact ⟨_, _, fun h => absurd h hi, (decide_eq_false hi).symm, fun w => floor_walk q r _ false false false (.inr (.inr (.inl ⟨rfl, rfl, rfl, rfl⟩))) w⟩
  ·by_cases hr0 : 0 < r
   ·by_cases hm : q = 18446744073709551615
    ·exact ⟨0, _, fun h => absurd h hi, (decide_eq_false hi).symm, fun w => floor_walk q r _ false true false (.inr (.inr (.inr (.inl ⟨rfl, hr0, by simpa using hm, rfl, rfl⟩)))) w⟩
    ·exact ⟨_, _, fun h => absurd h hi, (decide_eq_false hi).symm, fun w => floor_walk q r _ false true false (.inr (.inr (.inr (.inr (.inl ⟨rfl, hr0, by simpa using hm, _, _, rfl, rfl, rfl, .inr (.inr ⟨rfl, rfl⟩)⟩))))) w⟩
   ·exact ⟨_, _, fun h => absurd h hi, (decide_eq_false hi).symm, fun w => floor_walk q r _ false true false (.inr (.inr (.inr (.inr (.inr ⟨rfl, hr0, _, rfl, rfl, .inr (.inr ⟨rfl, rfl⟩)⟩))))) w⟩

theorem flv_qs (V d : Int) (n : Bool) (hd : 0 < d) : flv (V / d) (V % d) n = qs V d n := by
 unfold flv qs
 cases n
 ·rfl
 ·have h0 := Int.emod_nonneg V (show d ≠ 0 by omega)
  have h1 := Int.emod_lt_of_pos V hd
  have h2 := Int.mul_ediv_add_emod V d
  have e : (V + d - 1) / d = V / d + if 0 < V % d then 1 else 0 := by
   rw [Int.ediv_eq_iff_of_pos hd, Int.add_mul, Int.mul_comm (V / d) d]
   split <;> omega
  simp [e]
theorem refmd_walk (a b c C D z0 z1 z2 z3 z4 z5 z6 z7 q r X xv xe : Int) (sm n ok sa sb sc : Bool) (hc0 : (c == 0) = false) (h1 : decide (a < 0) = sa) (h2 : decide (b < 0) = sb) (h3 : decide (c < 0) = sc)
 (hD : (sc = true ∧ IntKind.u64.wrap c = C ∧ IntKind.u64.wrap (-C) = D) ∨ (sc = false ∧ IntKind.u64.wrap c = D)) (hn : n = ((sa != sb) != sc))
 (pr : Hid (Prods a b z0 z1 z2 z3 z4 z5 z6 z7))
 (dv : Hid (∀ w, Calls Tryz.prog 134 #[.agg #[.int .u64 z0, .int .u64 z1, .int .u64 z2, .int .u64 z3, .int .u64 z4, .int .u64 z5, .int .u64 z6, .int .u64 z7], .int .u64 D] w fun e w' => e = .returned (.tuple #[.int .u64 q, .int .u64 r, .bool sm]) ∧ Grown w w'))
 (fr : Hid (∀ w, Calls Tryz.prog 136 #[.int .u64 q, .int .u64 r, .bool sm, .bool n] w fun e w' => e = .returned (.tuple #[.int .i64 X, .bool ok]) ∧ Grown w w'))
 (hx : (ok = true ∧ xv = X ∧ xe = 0) ∨ (ok = false ∧ xv = 0 ∧ xe = 3)) (w : World) :
 Calls Tryz.prog 133 #[.int .i64 a, .int .i64 b, .int .i64 c] w fun e w' => e = .returned (.tuple #[.int .i64 xv, .int .i64 xe]) ∧ Grown w w' := by
 rcases hx with ⟨rfl, rfl, rfl⟩ | ⟨rfl, rfl, rfl⟩ <;> rcases hD with ⟨rfl, h4, h5⟩ | ⟨rfl, h4⟩ <;> cases sa <;> cases sb <;> subst hn
 all_goals
  go_enter Tryz.func133, Tryz.ntmps133
  go_wp2_with (first
   | ((with_reducible refine (pr.out _).mono ?_); rintro e w1 ⟨rfl, g1⟩)
   | ((with_reducible refine (dv.out _).mono ?_); rintro e w2 ⟨rfl, g2⟩)
   | (go_at_call 136; refine (fr.out _).mono ?_; rintro e w3 ⟨rfl, g3⟩))
  go_ret2
  exact ⟨rfl, grown_trans g1 (grown_trans g2 g3)⟩

theorem refmd_any (a b c : Int) (ha : I64 a) (hb : I64 b) (hc : I64 c) (w : World) :
 Calls Tryz.prog 133 #[.int .i64 a, .int .i64 b, .int .i64 c] w fun e w' => e = .returned (.tuple #[.int .i64 (mdv a b c), .int .i64 (mde a b c)]) ∧ Grown w w' := by
 by_cases h0 : c = 0
 ·subst h0
  have e1 : mdv a b 0 = 0 := rfl
  have e2 : mde a b 0 = 2 := rfl
  rw [e1, e2]
  go_enter Tryz.func133, Tryz.ntmps133
  go_wp2
  go_ret2
  exact ⟨rfl, Grown.refl _⟩
 have e1 : mdv a b c = rv (fl (a * b) c) := if_neg h0
 have e2 : mde a b c = re (fl (a * b) c) := if_neg h0
 rw [e1, e2, ← qs_fl a b c h0]
 obtain ⟨z0, z1, z2, z3, z4, z5, z6, z7, h8, pr⟩ := product_any a b ha hb
 have c0 := hc.mag0
 have c1 : 0 < mag c := by unfold mag; split <;> omega
 have hV : 0 ≤ mag a * mag b := Int.mul_nonneg ha.mag0.1 hb.mag0.1
 obtain ⟨V, eV⟩ : ∃ V, V = mag a * mag b := ⟨_, rfl⟩
 rw [← eV] at h8 hV ⊢
 obtain ⟨n, hn⟩ : ∃ n, n = ((decide (a < 0) != decide (b < 0)) != decide (c < 0)) := ⟨_, rfl⟩
 rw [← hn, ← flv_qs V (mag c) n c1]
 have hQ : 0 ≤ V / mag c := Int.ediv_nonneg hV (by omega)
 have hD : (decide (c < 0) = true ∧ IntKind.u64.wrap c = c + 18446744073709551616 ∧ IntKind.u64.wrap (-(c + 18446744073709551616)) = mag c) ∨ (decide (c < 0) = false ∧ IntKind.u64.wrap c = mag c) := by
  obtain ⟨i1, i2⟩ := hc
  unfold mag
  by_cases h : c < 0
  ·left; rw [if_pos h]; refine ⟨decide_eq_true h, ?_, ?_⟩ <;> (rw [IntKind.wrap_u64]; omega)
  ·right; rw [if_neg h]; refine ⟨decide_eq_false h, ?_⟩; rw [IntKind.wrap_u64]; omega
 obtain ⟨X, ok, hX, rfl, hfx⟩ := floor_any (V / mag c) (V % mag c) n hQ
 refine refmd_walk a b c _ (mag c) z0 z1 z2 z3 z4 z5 z6 z7 _ _ X _ _ _ n _ _ _ _ (by simpa using h0) rfl rfl rfl hD hn (Lib.hid pr) (Lib.hid fun w => divide_any V z0 z1 z2 z3 z4 z5 z6 z7 (mag c) (Lib.hid h8) hV c1 (by omega) w) (Lib.hid hfx) ?_ w
 by_cases hi : I64 (flv (V / mag c) (V % mag c) n)
 ·left; exact ⟨decide_eq_true hi, by rw [rv_in hi, hX hi], re_in hi⟩
 ·right; exact ⟨decide_eq_false hi, rv_out hi, re_out hi⟩
theorem refms_walk (a b n D z0 z1 z2 z3 z4 z5 z6 z7 q r X xv xe : Int) (sm s ok sa sb : Bool) (h1 : decide (a < 0) = sa) (h2 : decide (b < 0) = sb) (hn0 : ¬ n < 0) (hn1 : ¬ 63 < n) (hD : Hid (D = 2 ^ n.toNat))
 (hn : s = (sa != sb)) (pr : Hid (Prods a b z0 z1 z2 z3 z4 z5 z6 z7))
 (dv : Hid (∀ w, Calls Tryz.prog 134 #[.agg #[.int .u64 z0, .int .u64 z1, .int .u64 z2, .int .u64 z3, .int .u64 z4, .int .u64 z5, .int .u64 z6, .int .u64 z7], .int .u64 D] w fun e w' => e = .returned (.tuple #[.int .u64 q, .int .u64 r, .bool sm]) ∧ Grown w w'))
 (fr : Hid (∀ w, Calls Tryz.prog 136 #[.int .u64 q, .int .u64 r, .bool sm, .bool s] w fun e w' => e = .returned (.tuple #[.int .i64 X, .bool ok]) ∧ Grown w w'))
 (hx : (ok = true ∧ xv = X ∧ xe = 0) ∨ (ok = false ∧ xv = 0 ∧ xe = 3)) (w : World) :
 Calls Tryz.prog 107 #[.int .i64 a, .int .i64 b, .int .i64 n] w fun e w' => e = .returned (.tuple #[.int .i64 xv, .int .i64 xe]) ∧ Grown w w' := by
 go_enter Tryz.func107, Tryz.ntmps107
 go_wp2_with fail
 go_loopg [8, 9] n.toNat (fun k s8 s9 wr => ∃ (m : Nat) (di ii : Int), s8 = .int .u64 di ∧ s9 = .int .i64 ii ∧ 0 ≤ ii ∧ ii ≤ n ∧ wr = w ∧ Hid (ii = m ∧ di = 2 ^ m ∧ m + k = n.toNat))
 case atStart => exact ⟨0, _, _, rfl, rfl, by omega, by omega, rfl, Lib.hid ⟨rfl, rfl, by omega⟩⟩
 case round =>
  obtain ⟨m, di, ii, rfl, rfl, hi0, hi1, rfl, H⟩ := hrel
  by_cases hc : ii < n
  ·have hp := two_pow (m + 1) (by have := H.out; omega)
   obtain ⟨x1, x2, x3⟩ := H.out
   rw [Int.pow_succ, ← x2] at hp
   obtain ⟨d', ed⟩ : ∃ d', d' = 2 * di := ⟨_, rfl⟩
   obtain ⟨i', ei⟩ : ∃ i', i' = ii + 1 := ⟨_, rfl⟩
   have k1 : IntKind.u64.wrap (2 * di) = d' := by rw [IntKind.wrap_u64]; omega
   have k2 : IntKind.i64.wrap (ii + 1) = i' := by rw [IntKind.wrap_i64]; omega
   have k3 : wrap64 (ii + 1) = i' := by unfold wrap64; omega
   obtain ⟨k', ek⟩ : ∃ k', gk = k' + 1 := ⟨gk - 1, by omega⟩
   have HE : Hid (i' = ((m + 1 : Nat) : Int) ∧ d' = 2 ^ (m + 1) ∧ m + 1 + k' = n.toNat ∧ 0 ≤ i' ∧ i' ≤ n ∧ k' < gk) := Lib.hid ⟨by omega, by rw [Int.pow_succ, ← x2]; omega, by omega, by omega, by omega, by omega⟩
   clear x1 x2 x3 ed ei ek hp
   go_wp2_with fail
   go_roundg k'
   case measure => exact HE.out.2.2.2.2.2
   case rel => exact ⟨m + 1, _, _, rfl, rfl, HE.out.2.2.2.1, HE.out.2.2.2.2.1, rfl, Lib.hid ⟨HE.out.1, HE.out.2.1, HE.out.2.2.1⟩⟩
  ·have e : di = D := by
    obtain ⟨x1, x2, x3⟩ := H.out
    have e2 : n.toNat = m := by omega
    rw [x2, hD.out, e2]
   subst e
   rcases hx with ⟨rfl, rfl, rfl⟩ | ⟨rfl, rfl, rfl⟩ <;> cases sa <;> cases sb <;> subst hn
   all_goals
    go_wp2_with (first
     | ((with_reducible refine (pr.out _).mono ?_); rintro e w1 ⟨rfl, g1⟩)
     | ((with_reducible refine (dv.out _).mono ?_); rintro e w2 ⟨rfl, g2⟩)
     | (go_at_call 136; refine (fr.out _).mono ?_; rintro e w3 ⟨rfl, g3⟩))
    go_ret2
    exact ⟨rfl, grown_trans g1 (grown_trans g2 g3)⟩

theorem refms_any (a b n : Int) (ha : I64 a) (hb : I64 b) (w : World) :
 Calls Tryz.prog 107 #[.int .i64 a, .int .i64 b, .int .i64 n] w fun e w' => e = .returned (.tuple #[.int .i64 (msv a b n), .int .i64 (mse a b n)]) ∧ Grown w w' := by
 by_cases h : n < 0 ∨ 63 < n
 ·have e1 : msv a b n = 0 := if_pos h
  have e2 : mse a b n = 1 := if_pos h
  rw [e1, e2]
  by_cases h1 : n < 0
  ·clear h
   go_enter Tryz.func107, Tryz.ntmps107
   go_wp2
   go_ret2
   exact ⟨rfl, Grown.refl _⟩
  ·have h2 : 63 < n := by omega
   clear h
   go_enter Tryz.func107, Tryz.ntmps107
   go_wp2
   go_ret2
   exact ⟨rfl, Grown.refl _⟩
 have e1 : msv a b n = rv (a * b / 2 ^ n.toNat) := if_neg h
 have e2 : mse a b n = re (a * b / 2 ^ n.toNat) := if_neg h
 obtain ⟨D, hD⟩ : ∃ D : Int, D = 2 ^ n.toNat := ⟨_, rfl⟩
 have c1 := two_pow n.toNat (by omega)
 rw [← hD] at c1 e1 e2
 rw [e1, e2, ← qs_shift a b D c1.1]
 obtain ⟨z0, z1, z2, z3, z4, z5, z6, z7, h8, pr⟩ := product_any a b ha hb
 have hV : 0 ≤ mag a * mag b := Int.mul_nonneg ha.mag0.1 hb.mag0.1
 obtain ⟨V, eV⟩ : ∃ V, V = mag a * mag b := ⟨_, rfl⟩
 rw [← eV] at h8 hV ⊢
 obtain ⟨s, hs⟩ : ∃ s, s = (decide (a < 0) != decide (b < 0)) := ⟨_, rfl⟩
 rw [← hs, ← flv_qs V D s c1.1]
 have hQ : 0 ≤ V / D := Int.ediv_nonneg hV (by omega)
 obtain ⟨X, ok, hX, rfl, hfx⟩ := floor_any (V / D) (V % D) s hQ
 refine refms_walk a b n D z0 z1 z2 z3 z4 z5 z6 z7 _ _ X _ _ _ s _ _ _ rfl rfl (fun x => h (.inl x)) (fun x => h (.inr x)) (Lib.hid hD) hs (Lib.hid pr) (Lib.hid fun w => divide_any V z0 z1 z2 z3 z4 z5 z6 z7 D (Lib.hid h8) hV c1.1 (by omega) w) (Lib.hid hfx) ?_ w
 by_cases hi : I64 (flv (V / D) (V % D) s)
 ·left; exact ⟨decide_eq_true hi, by rw [rv_in hi, hX hi], re_in hi⟩
 ·right; exact ⟨decide_eq_false hi, rv_out hi, re_out hi⟩
abbrev JAp (lo hi nx ny dp : Int) (x y : Bd) (t : Int) : Prop := ∀ w, Calls Tryz.prog 106 #[.agg #[.int .u32 lo, .int .u32 hi, .int .i32 nx, .int .i32 ny, .int .i32 dp], .agg #[.int .u32 x.k, .int .i32 x.r, .int .i32 x.ax, .int .i32 x.ay, .int .i32 x.m, .int .i32 x.o, .int .i32 x.px, .int .i32 x.py, .int .i32 x.vx, .int .i32 x.vy], .agg #[.int .u32 y.k, .int .i32 y.r, .int .i32 y.ax, .int .i32 y.ay, .int .i32 y.m, .int .i32 y.o, .int .i32 y.px, .int .i32 y.py, .int .i32 y.vx, .int .i32 y.vy]] w fun e w' => e = .returned (.int .i64 t) ∧ Kep w.heap.size w w'
abbrev JSt (lo hi nx ny dp : Int) (x y : Bd) (t : Int) : Prop := ∀ w, Calls Tryz.prog 88 #[.agg #[.int .u32 lo, .int .u32 hi, .int .i32 nx, .int .i32 ny, .int .i32 dp], .agg #[.int .u32 x.k, .int .i32 x.r, .int .i32 x.ax, .int .i32 x.ay, .int .i32 x.m, .int .i32 x.o, .int .i32 x.px, .int .i32 x.py, .int .i32 x.vx, .int .i32 x.vy], .agg #[.int .u32 y.k, .int .i32 y.r, .int .i32 y.ax, .int .i32 y.ay, .int .i32 y.m, .int .i32 y.o, .int .i32 y.px, .int .i32 y.py, .int .i32 y.vx, .int .i32 y.vy]] w fun e w' => e = .returned (.int .i64 t) ∧ Kep w.heap.size w w'
abbrev JCh (j i n t : Int) : Prop := ∀ w, Calls Tryz.prog 89 #[.int .i64 j, .int .i32 i, .int .i32 n] w fun e w' => e = .returned (.int .i64 t) ∧ Kep w.heap.size w w'
abbrev JFl (a b t : Int) : Prop := ∀ w, Calls Tryz.prog 45 #[.int .i64 a, .int .i64 b] w fun e w' => e = .returned (.int .i64 t) ∧ w = w'
theorem jap {lo hi nx ny dp : Int} {x y : Bd} {t : Int} (hx : Vb x) (hy : Vb y) (h1 : Nr nx) (h2 : Nr ny) (ht : apI nx ny x y = t) : JAp lo hi nx ny dp x y t := fun w => by
 have hb := sp_bd hx hy h1 h2
 obtain ⟨a1, a2, a3, a4, a5, a6, a7, a8⟩ := hx
 obtain ⟨b1, b2, b3, b4, b5, b6, b7, b8⟩ := hy
 unfold apI spI at ht
 obtain ⟨dx, hdx⟩ : ∃ z, z = y.vx - x.vx := ⟨_, rfl⟩
 obtain ⟨dy, hdy⟩ : ∃ z, z = y.vy - x.vy := ⟨_, rfl⟩
 obtain ⟨p, hp⟩ : ∃ z, z = dx * nx := ⟨_, rfl⟩
 obtain ⟨q, hq⟩ : ∃ z, z = dy * ny := ⟨_, rfl⟩
 rw [← hdx, ← hdy, ← hp, ← hq] at ht hb
 obtain ⟨s, hs⟩ : ∃ z, z = p + q := ⟨_, rfl⟩
 rw [← hs] at ht
 have C1 : Hid (JFl s 65536 t) := Lib.hid (fun w => by rw [← ht]; exact reffl_any s 65536 (by unfold I64; omega) (by decide) (by decide) w)
 have w1 : IntKind.i64.wrap x.vx = x.vx := by rw [IntKind.wrap_i64]; omega
 have w2 : IntKind.i64.wrap y.vx = y.vx := by rw [IntKind.wrap_i64]; omega
 have w3 : IntKind.i64.wrap x.vy = x.vy := by rw [IntKind.wrap_i64]; omega
 have w4 : IntKind.i64.wrap y.vy = y.vy := by rw [IntKind.wrap_i64]; omega
 have w5 : IntKind.i64.wrap nx = nx := by rw [IntKind.wrap_i64]; omega
 have w6 : IntKind.i64.wrap ny = ny := by rw [IntKind.wrap_i64]; omega
 have w7 : IntKind.i64.wrap (y.vx - x.vx) = dx := by rw [IntKind.wrap_i64]; omega
 have w8 : IntKind.i64.wrap (y.vy - x.vy) = dy := by rw [IntKind.wrap_i64]; omega
 have w9 : IntKind.i64.wrap (dx * nx) = p := by rw [← hp, IntKind.wrap_i64]; omega
 have w10 : IntKind.i64.wrap (dy * ny) = q := by rw [← hq, IntKind.wrap_i64]; omega
 have w11 : IntKind.i64.wrap (p + q) = s := by rw [← hs, IntKind.wrap_i64]; omega
 clear a1 a2 a3 a4 a5 a6 a7 a8 b1 b2 b3 b4 b5 b6 b7 b8 hb h1 h2 ht hdx hdy hp hq hs
 go_enter Tryz.func106, Tryz.ntmps106
 go_wp2_with ((with_reducible refine (C1.out _).mono ?_); rintro e w' ⟨rfl, rfl⟩)
 go_ret
 exact ⟨rfl, (kep_more (kep_more (kep_more (Kep.refl _ _) _) _) _)⟩
theorem jst {lo hi nx ny dp : Int} {x y : Bd} {t : Int} (hx : Vb x) (hy : Vb y) (h1 : Nr nx) (h2 : Nr ny) (ht : stI nx ny x y = t) : JSt lo hi nx ny dp x y t := fun w => by
 have hb := ap_bd hx hy h1 h2
 have C1 := Lib.hid (jap (lo := lo) (hi := hi) (dp := dp) hx hy h1 h2 rfl)
 have hnum := num_bd hx hy h1 h2
 have hbn := bn_bd hx hy
 obtain ⟨a1, a2, a3, a4, a5, a6, a7, a8⟩ := hx
 obtain ⟨b1, b2, b3, b4, b5, b6, b7, b8⟩ := hy
 unfold stI at ht
 unfold bnI at *
 generalize apI nx ny x y = v at *
 obtain ⟨M, hM⟩ : ∃ z, z = x.m + y.m := ⟨_, rfl⟩
 obtain ⟨B, hB⟩ : ∃ z, z = max x.o y.o := ⟨_, rfl⟩
 rw [← hM] at ht
 rw [← hB] at ht hnum hbn
 have w1 : IntKind.i64.wrap x.m = x.m := by rw [IntKind.wrap_i64]; omega
 have w2 : IntKind.i64.wrap y.m = y.m := by rw [IntKind.wrap_i64]; omega
 have w3 : IntKind.i64.wrap (x.m + y.m) = M := by rw [IntKind.wrap_i64]; omega
 have w4 : IntKind.i64.wrap B = B := by rw [IntKind.wrap_i64]; omega
 have w5 : max x.o y.o = B := hB.symm
 by_cases c1 : 0 ≤ v
 ·rw [if_pos (.inl c1)] at ht
  subst ht
  have d1 : decide (0 ≤ v) = true := decide_eq_true c1
  clear a1 a2 a3 a4 a5 a6 a7 a8 b1 b2 b3 b4 b5 b6 b7 b8 hb h1 h2 hM hB hnum hbn c1
  go_enter Tryz.func88, Tryz.ntmps88
  go_wp2_with (first
   | ((with_reducible refine (C1.out _).mono ?_); rintro e w1 ⟨rfl, g1⟩
      have zQ := zK g1 (b := w.heap.size) (vs := [.int .u32 lo, .int .u32 hi, .int .i32 nx, .int .i32 ny, .int .i32 dp])
      have c0 := zI zQ 0
      have c1 := zI zQ 1
      have c2 := zI zQ 2
      have c3 := zI zQ 3
      have c4 := zI zQ 4
      clear zQ
      have zQ := zK g1 (b := w.heap.size + 1) (vs := [.int .u32 x.k, .int .i32 x.r, .int .i32 x.ax, .int .i32 x.ay, .int .i32 x.m, .int .i32 x.o, .int .i32 x.px, .int .i32 x.py, .int .i32 x.vx, .int .i32 x.vy])
      have x0 := zI zQ 0
      have x1 := zI zQ 1
      have x2 := zI zQ 2
      have x3 := zI zQ 3
      have x4 := zI zQ 4
      have x5 := zI zQ 5
      have x6 := zI zQ 6
      have x7 := zI zQ 7
      have x8 := zI zQ 8
      have x9 := zI zQ 9
      clear zQ
      have zQ := zK g1 (b := w.heap.size + 1 + 1) (vs := [.int .u32 y.k, .int .i32 y.r, .int .i32 y.ax, .int .i32 y.ay, .int .i32 y.m, .int .i32 y.o, .int .i32 y.px, .int .i32 y.py, .int .i32 y.vx, .int .i32 y.vy])
      have y0 := zI zQ 0
      have y1 := zI zQ 1
      have y2 := zI zQ 2
      have y3 := zI zQ 3
      have y4 := zI zQ 4
      have y5 := zI zQ 5
      have y6 := zI zQ 6
      have y7 := zI zQ 7
      have y8 := zI zQ 8
      have y9 := zI zQ 9
      clear zQ
      have gg := kep_next (kep_more (kep_more (kep_more (Kep.refl _ _) _) _) _) g1
      have zc_w1 : w.heap.size < w1.heap.size := World.block_lt_of_cell? _ _ c0
      have zx_w1 : w.heap.size + 1 < w1.heap.size := World.block_lt_of_cell? _ _ x0
      have zy_w1 : w.heap.size + 1 + 1 < w1.heap.size := World.block_lt_of_cell? _ _ y0))
  go_ret
  exact ⟨rfl, gg⟩
 have d1 : decide (0 ≤ v) = false := decide_eq_false c1
 by_cases c2 : M = 0
 ·rw [if_pos (.inr c2)] at ht
  subst ht
  have d2 : (M == 0) = true := by simp [c2]
  clear a1 a2 a3 a4 a5 a6 a7 a8 b1 b2 b3 b4 b5 b6 b7 b8 hb h1 h2 hM hB hnum hbn c1 c2
  go_enter Tryz.func88, Tryz.ntmps88
  go_wp2_with (first
   | ((with_reducible refine (C1.out _).mono ?_); rintro e w1 ⟨rfl, g1⟩
      have zQ := zK g1 (b := w.heap.size) (vs := [.int .u32 lo, .int .u32 hi, .int .i32 nx, .int .i32 ny, .int .i32 dp])
      have c0 := zI zQ 0
      have c1 := zI zQ 1
      have c2 := zI zQ 2
      have c3 := zI zQ 3
      have c4 := zI zQ 4
      clear zQ
      have zQ := zK g1 (b := w.heap.size + 1) (vs := [.int .u32 x.k, .int .i32 x.r, .int .i32 x.ax, .int .i32 x.ay, .int .i32 x.m, .int .i32 x.o, .int .i32 x.px, .int .i32 x.py, .int .i32 x.vx, .int .i32 x.vy])
      have x0 := zI zQ 0
      have x1 := zI zQ 1
      have x2 := zI zQ 2
      have x3 := zI zQ 3
      have x4 := zI zQ 4
      have x5 := zI zQ 5
      have x6 := zI zQ 6
      have x7 := zI zQ 7
      have x8 := zI zQ 8
      have x9 := zI zQ 9
      clear zQ
      have zQ := zK g1 (b := w.heap.size + 1 + 1) (vs := [.int .u32 y.k, .int .i32 y.r, .int .i32 y.ax, .int .i32 y.ay, .int .i32 y.m, .int .i32 y.o, .int .i32 y.px, .int .i32 y.py, .int .i32 y.vx, .int .i32 y.vy])
      have y0 := zI zQ 0
      have y1 := zI zQ 1
      have y2 := zI zQ 2
      have y3 := zI zQ 3
      have y4 := zI zQ 4
      have y5 := zI zQ 5
      have y6 := zI zQ 6
      have y7 := zI zQ 7
      have y8 := zI zQ 8
      have y9 := zI zQ 9
      clear zQ
      have gg := kep_next (kep_more (kep_more (kep_more (Kep.refl _ _) _) _) _) g1
      have zc_w1 : w.heap.size < w1.heap.size := World.block_lt_of_cell? _ _ c0
      have zx_w1 : w.heap.size + 1 < w1.heap.size := World.block_lt_of_cell? _ _ x0
      have zy_w1 : w.heap.size + 1 + 1 < w1.heap.size := World.block_lt_of_cell? _ _ y0))
  go_ret
  exact ⟨rfl, gg⟩
 ·rw [if_neg (by omega)] at ht
  have d2 : (M == 0) = false := by simp [c2]
  have hn := hnum (by omega)
  obtain ⟨u, hu⟩ : ∃ z, z = -v := ⟨_, rfl⟩
  obtain ⟨f, hf⟩ : ∃ z, z = 65536 + B := ⟨_, rfl⟩
  obtain ⟨N, hN⟩ : ∃ z, z = u * f := ⟨_, rfl⟩
  rw [← hu, ← hf, ← hN] at ht hn
  have w6 : IntKind.i64.wrap (-v) = u := by rw [IntKind.wrap_i64]; omega
  have w7 : wrap64 (-v) = u := by unfold wrap64; omega
  have w8 : IntKind.i64.wrap (65536 + B) = f := by rw [IntKind.wrap_i64]; omega
  have w9 : IntKind.i64.wrap (u * f) = N := by rw [← hN, IntKind.wrap_i64]; omega
  have C2 : Hid (JFl N M t) := Lib.hid (fun w => by rw [← ht]; exact reffl_any N M (by unfold I64; omega) (by omega) (by omega) w)
  clear a1 a2 a3 a4 a5 a6 a7 a8 b1 b2 b3 b4 b5 b6 b7 b8 hb h1 h2 hM hB hnum hbn c1 c2 hn hu hf hN ht
  go_enter Tryz.func88, Tryz.ntmps88
  go_wp2_with (first
   | ((with_reducible refine (C1.out _).mono ?_); rintro e w1 ⟨rfl, g1⟩
      have zQ := zK g1 (b := w.heap.size) (vs := [.int .u32 lo, .int .u32 hi, .int .i32 nx, .int .i32 ny, .int .i32 dp])
      have c0 := zI zQ 0
      have c1 := zI zQ 1
      have c2 := zI zQ 2
      have c3 := zI zQ 3
      have c4 := zI zQ 4
      clear zQ
      have zQ := zK g1 (b := w.heap.size + 1) (vs := [.int .u32 x.k, .int .i32 x.r, .int .i32 x.ax, .int .i32 x.ay, .int .i32 x.m, .int .i32 x.o, .int .i32 x.px, .int .i32 x.py, .int .i32 x.vx, .int .i32 x.vy])
      have x0 := zI zQ 0
      have x1 := zI zQ 1
      have x2 := zI zQ 2
      have x3 := zI zQ 3
      have x4 := zI zQ 4
      have x5 := zI zQ 5
      have x6 := zI zQ 6
      have x7 := zI zQ 7
      have x8 := zI zQ 8
      have x9 := zI zQ 9
      clear zQ
      have zQ := zK g1 (b := w.heap.size + 1 + 1) (vs := [.int .u32 y.k, .int .i32 y.r, .int .i32 y.ax, .int .i32 y.ay, .int .i32 y.m, .int .i32 y.o, .int .i32 y.px, .int .i32 y.py, .int .i32 y.vx, .int .i32 y.vy])
      have y0 := zI zQ 0
      have y1 := zI zQ 1
      have y2 := zI zQ 2
      have y3 := zI zQ 3
      have y4 := zI zQ 4
      have y5 := zI zQ 5
      have y6 := zI zQ 6
      have y7 := zI zQ 7
      have y8 := zI zQ 8
      have y9 := zI zQ 9
      clear zQ
      have gg := kep_next (kep_more (kep_more (kep_more (Kep.refl _ _) _) _) _) g1
      have zc_w1 : w.heap.size < w1.heap.size := World.block_lt_of_cell? _ _ c0
      have zx_w1 : w.heap.size + 1 < w1.heap.size := World.block_lt_of_cell? _ _ x0
      have zy_w1 : w.heap.size + 1 + 1 < w1.heap.size := World.block_lt_of_cell? _ _ y0)
   | ((with_reducible refine (C2.out _).mono ?_); rintro e w' ⟨rfl, rfl⟩))
  go_ret
  exact ⟨rfl, gg⟩
theorem jch {j i n t : Int} (hj : 0 ≤ j ∧ j ≤ 8796093022208) (hi : 0 ≤ i ∧ i ≤ 1048576) (hn : Nr n) (ht : chI j i n = t) : JCh j i n t := fun w => by
 have hk := k_bd hj hi
 have hc := ch_bd hk.2.2 hn
 unfold chI at ht
 obtain ⟨e1, he1⟩ : ∃ e, e = mse j i 16 := ⟨_, rfl⟩
 have m1 : msv j i 16 = j * i / 65536 := msv_16 (by omega) (by omega)
 obtain ⟨k, hkk⟩ : ∃ z, z = j * i / 65536 := ⟨_, rfl⟩
 rw [← hkk] at hk hc m1 ht
 obtain ⟨e2, he2⟩ : ∃ e, e = mse k n 16 := ⟨_, rfl⟩
 have m2 : msv k n 16 = t := by rw [← ht]; exact msv_16 (by omega) (by omega)
 have C1 : Hid (∀ w, Calls Tryz.prog 107 #[.int .i64 j, .int .i64 i, .int .i64 16] w fun e w' => e = .returned (.tuple #[.int .i64 k, .int .i64 e1]) ∧ Kep w.heap.size w w') := Lib.hid (fun w => by rw [← m1, he1]; exact kep_calls (refms_any j i 16 (by unfold I64; omega) (by unfold I64; omega) w))
 have C2 : Hid (∀ w, Calls Tryz.prog 107 #[.int .i64 k, .int .i64 n, .int .i64 16] w fun e w' => e = .returned (.tuple #[.int .i64 t, .int .i64 e2]) ∧ Kep w.heap.size w w') := Lib.hid (fun w => by rw [← m2, he2]; exact kep_calls (refms_any k n 16 (by unfold I64; omega) (by unfold I64; omega) w))
 have w1 : IntKind.i64.wrap i = i := by rw [IntKind.wrap_i64]; omega
 have w2 : IntKind.i64.wrap n = n := by rw [IntKind.wrap_i64]; omega
 clear hj hi hn ht hk hc he1 m1 hkk he2 m2
 go_enter Tryz.func89, Tryz.ntmps89
 go_wp2_with (first
  | ((with_reducible refine (C1.out _).mono ?_); rintro e w1 ⟨rfl, g1⟩)
  | ((with_reducible refine (C2.out _).mono ?_); rintro e w2 ⟨rfl, g2⟩))
 go_ret
 exact ⟨rfl, kep_next g1 g2⟩
def okI (x : Bd) : Prop := chk x.r x.ax x.ay x.m x.o x.px x.py x.vx x.vy = 0
instance (x : Bd) : Decidable (okI x) := by unfold okI; infer_instance
end Go.Proofs.YtaknmlohnifcdaaGreatDoor
