/-
  Package vec: the walks of the laws VecLength and VecTriangle.
-/
import Derived.Test.YtohkacgmdboknaaVecCon
namespace Go.Proofs.Ytohkacgmdboknaa
open Go.RowKit Go.Lib

set_option maxHeartbeats 1000000 in
theorem length_out0 (a b : Int) (A : Hid Awake) (I0 : Hid (In1 a false)) (w : World) :
    Calls Try.prog 6 #[.int .i64 a, .int .i64 b] w fun e w' => e = .returned (.bool true) ∧ Grown w w' := by
  go_enter Try.func6, Try.ntmps6
  go_wp2_with (first
    | ((with_reducible refine (I0.out _).mono ?_); rintro e w' ⟨rfl, rfl⟩)
    | ((with_reducible refine (A.out _).mono ?_); rintro e w' ⟨rfl, gA⟩))
  go_ret
  exact ⟨rfl, grown_trans (by assumption) gA⟩

set_option maxHeartbeats 1000000 in
theorem length_out1 (a b : Int) (A : Hid Awake) (I0 : Hid (In1 a true)) (I1 : Hid (In1 b false)) (w : World) :
    Calls Try.prog 6 #[.int .i64 a, .int .i64 b] w fun e w' => e = .returned (.bool true) ∧ Grown w w' := by
  go_enter Try.func6, Try.ntmps6
  go_wp2_with (first
    | ((with_reducible refine (I0.out _).mono ?_); rintro e w' ⟨rfl, rfl⟩)
    | ((with_reducible refine (I1.out _).mono ?_); rintro e w' ⟨rfl, rfl⟩)
    | ((with_reducible refine (A.out _).mono ?_); rintro e w' ⟨rfl, gA⟩))
  go_ret
  exact ⟨rfl, grown_trans (by assumption) gA⟩

set_option maxHeartbeats 1000000 in
theorem length_walk (a b n s x y : Int) (A : Hid Awake) (I1 : Hid (In1 a true)) (I2 : Hid (In1 b true)) (C1 : Hid (Len2 a b n)) (C2 : Hid (Lsq2 a b s))
    (hx : (a < 0 ∧ -a = x) ∨ (0 ≤ a ∧ a = x)) (hy : (b < 0 ∧ -b = y) ∨ (0 ≤ b ∧ b = y)) (ha : InD a) (hb : InD b) (h0 : 0 ≤ n) (h1 : n ≤ 4294967295) (h2 : x ≤ n) (h3 : y ≤ n) (h4 : n ≤ x + y) (t : Int) (ht : n * n = t) (h5 : t ≤ s) (h6 : s < 18446744073709551616) (w : World) :
    Calls Try.prog 6 #[.int .i64 a, .int .i64 b] w fun e w' => e = .returned (.bool true) ∧ Grown w w' := by
  obtain ⟨a1, a2⟩ := ha; obtain ⟨b1, b2⟩ := hb
  have ht0 : 0 ≤ t := by rw [← ht]; exact Int.mul_nonneg h0 h0
  have f1 : IntKind.u64.wrap t = t := by rw [IntKind.wrap_u64]; omega
  have f2 : IntKind.u64.wrap n = n := by rw [IntKind.wrap_u64]; omega
  rcases hx with ⟨c1, rfl⟩ | ⟨c1, rfl⟩ <;> rcases hy with ⟨c2, rfl⟩ | ⟨c2, rfl⟩
  all_goals
    go_enter Try.func6, Try.ntmps6
    go_wp2_with (first
      | ((with_reducible refine (A.out _).mono ?_); rintro e w' ⟨rfl, g1⟩)
      | ((with_reducible refine (I1.out _).mono ?_); rintro e w' ⟨rfl, rfl⟩)
      | ((with_reducible refine (I2.out _).mono ?_); rintro e w' ⟨rfl, rfl⟩)
      | ((with_reducible refine (C1.out _).mono ?_); rintro e w' ⟨rfl, rfl⟩)
      | ((with_reducible refine (C2.out _).mono ?_); rintro e w' ⟨rfl, rfl⟩))
    go_ret
    exact ⟨rfl, g1⟩

theorem length_all (a b : Int) (w : World) : Calls Try.prog 6 #[.int .i64 a, .int .i64 b] w fun e w' => e = .returned (.bool true) ∧ Grown w w' := by
  by_cases ha : InD a
  · by_cases hb : InD b
    · have hl := lsq_in ha hb
      have R := rt_is hl.1
      have g := root_ge R
      have k : ∀ v : Int, ∃ x, ((v < 0 ∧ -v = x) ∨ (0 ≤ v ∧ v = x)) ∧ 0 ≤ x ∧ v * v = x * x ∧ (-rt (lsq a b) ≤ v → v ≤ rt (lsq a b) → x ≤ rt (lsq a b)) := fun v => by
        by_cases c : v < 0
        · exact ⟨-v, .inl ⟨c, rfl⟩, by omega, (Int.neg_mul_neg v v).symm, by omega⟩
        · exact ⟨v, .inr ⟨by omega, rfl⟩, by omega, rfl, by omega⟩
      obtain ⟨x, hx, x0, ex, kx⟩ := k a
      obtain ⟨y, hy, y0, ey, ky⟩ := k b
      exact length_walk a b (rt (lsq a b)) (lsq a b) x y (Lib.hid awake_any) (Lib.hid (in1 ha)) (Lib.hid (in1 hb)) (Lib.hid (len2 ha hb R)) (Lib.hid (lsq2 ha hb rfl)) hx hy ha hb R.1 (R.le_max (by omega)) (kx g.1.1 g.1.2) (ky g.2.1 g.2.2) (len_le R x0 y0 ex ey) _ rfl R.2.1 (by omega) w
    · exact length_out1 a b (Lib.hid awake_any) (Lib.hid (in1 ha)) (Lib.hid (in0 hb)) w
  · exact length_out0 a b (Lib.hid awake_any) (Lib.hid (in0 ha)) w

set_option maxHeartbeats 1000000 in
theorem triangle_out0 (a b c d A : Int) (AW : Hid Awake) (I0 : Hid (In1 A false)) (f0 : IntKind.i64.wrap (2 * a) = A) (w : World) :
    Calls Try.prog 7 #[.int .i64 a, .int .i64 b, .int .i64 c, .int .i64 d] w fun e w' => e = .returned (.bool true) ∧ Grown w w' := by
  go_enter Try.func7, Try.ntmps7
  go_wp2_with (first
    | ((with_reducible refine (I0.out _).mono ?_); rintro e w' ⟨rfl, rfl⟩)
    | ((with_reducible refine (AW.out _).mono ?_); rintro e w' ⟨rfl, gA⟩))
  go_ret
  exact ⟨rfl, grown_trans (by assumption) gA⟩

set_option maxHeartbeats 1000000 in
theorem triangle_out1 (a b c d A B : Int) (AW : Hid Awake) (I0 : Hid (In1 A true)) (I1 : Hid (In1 B false)) (f0 : IntKind.i64.wrap (2 * a) = A) (f1 : IntKind.i64.wrap (2 * b) = B) (w : World) :
    Calls Try.prog 7 #[.int .i64 a, .int .i64 b, .int .i64 c, .int .i64 d] w fun e w' => e = .returned (.bool true) ∧ Grown w w' := by
  go_enter Try.func7, Try.ntmps7
  go_wp2_with (first
    | ((with_reducible refine (I0.out _).mono ?_); rintro e w' ⟨rfl, rfl⟩)
    | ((with_reducible refine (I1.out _).mono ?_); rintro e w' ⟨rfl, rfl⟩)
    | ((with_reducible refine (AW.out _).mono ?_); rintro e w' ⟨rfl, gA⟩))
  go_ret
  exact ⟨rfl, grown_trans (by assumption) gA⟩

set_option maxHeartbeats 1000000 in
theorem triangle_out2 (a b c d A B C : Int) (AW : Hid Awake) (I0 : Hid (In1 A true)) (I1 : Hid (In1 B true)) (I2 : Hid (In1 C false)) (f0 : IntKind.i64.wrap (2 * a) = A) (f1 : IntKind.i64.wrap (2 * b) = B) (f2 : IntKind.i64.wrap (2 * c) = C) (w : World) :
    Calls Try.prog 7 #[.int .i64 a, .int .i64 b, .int .i64 c, .int .i64 d] w fun e w' => e = .returned (.bool true) ∧ Grown w w' := by
  go_enter Try.func7, Try.ntmps7
  go_wp2_with (first
    | ((with_reducible refine (I0.out _).mono ?_); rintro e w' ⟨rfl, rfl⟩)
    | ((with_reducible refine (I1.out _).mono ?_); rintro e w' ⟨rfl, rfl⟩)
    | ((with_reducible refine (I2.out _).mono ?_); rintro e w' ⟨rfl, rfl⟩)
    | ((with_reducible refine (AW.out _).mono ?_); rintro e w' ⟨rfl, gA⟩))
  go_ret
  exact ⟨rfl, grown_trans (by assumption) gA⟩

set_option maxHeartbeats 1000000 in
theorem triangle_out3 (a b c d A B C D : Int) (AW : Hid Awake) (I0 : Hid (In1 A true)) (I1 : Hid (In1 B true)) (I2 : Hid (In1 C true)) (I3 : Hid (In1 D false)) (f0 : IntKind.i64.wrap (2 * a) = A) (f1 : IntKind.i64.wrap (2 * b) = B) (f2 : IntKind.i64.wrap (2 * c) = C) (f3 : IntKind.i64.wrap (2 * d) = D) (w : World) :
    Calls Try.prog 7 #[.int .i64 a, .int .i64 b, .int .i64 c, .int .i64 d] w fun e w' => e = .returned (.bool true) ∧ Grown w w' := by
  go_enter Try.func7, Try.ntmps7
  go_wp2_with (first
    | ((with_reducible refine (I0.out _).mono ?_); rintro e w' ⟨rfl, rfl⟩)
    | ((with_reducible refine (I1.out _).mono ?_); rintro e w' ⟨rfl, rfl⟩)
    | ((with_reducible refine (I2.out _).mono ?_); rintro e w' ⟨rfl, rfl⟩)
    | ((with_reducible refine (I3.out _).mono ?_); rintro e w' ⟨rfl, rfl⟩)
    | ((with_reducible refine (AW.out _).mono ?_); rintro e w' ⟨rfl, gA⟩))
  go_ret
  exact ⟨rfl, grown_trans (by assumption) gA⟩

set_option maxHeartbeats 1000000 in
theorem triangle_out4 (a b c d A B C D : Int) (AW : Hid Awake) (I0 : Hid (In1 A true)) (I1 : Hid (In1 B true)) (I2 : Hid (In1 C true)) (I3 : Hid (In1 D true)) (I4 : Hid (In1 a false)) (f0 : IntKind.i64.wrap (2 * a) = A) (f1 : IntKind.i64.wrap (2 * b) = B) (f2 : IntKind.i64.wrap (2 * c) = C) (f3 : IntKind.i64.wrap (2 * d) = D) (w : World) :
    Calls Try.prog 7 #[.int .i64 a, .int .i64 b, .int .i64 c, .int .i64 d] w fun e w' => e = .returned (.bool true) ∧ Grown w w' := by
  go_enter Try.func7, Try.ntmps7
  go_wp2_with (first
    | ((with_reducible refine (I0.out _).mono ?_); rintro e w' ⟨rfl, rfl⟩)
    | ((with_reducible refine (I1.out _).mono ?_); rintro e w' ⟨rfl, rfl⟩)
    | ((with_reducible refine (I2.out _).mono ?_); rintro e w' ⟨rfl, rfl⟩)
    | ((with_reducible refine (I3.out _).mono ?_); rintro e w' ⟨rfl, rfl⟩)
    | ((with_reducible refine (I4.out _).mono ?_); rintro e w' ⟨rfl, rfl⟩)
    | ((with_reducible refine (AW.out _).mono ?_); rintro e w' ⟨rfl, gA⟩))
  go_ret
  exact ⟨rfl, grown_trans (by assumption) gA⟩

set_option maxHeartbeats 1000000 in
theorem triangle_out5 (a b c d A B C D : Int) (AW : Hid Awake) (I0 : Hid (In1 A true)) (I1 : Hid (In1 B true)) (I2 : Hid (In1 C true)) (I3 : Hid (In1 D true)) (I4 : Hid (In1 a true)) (I5 : Hid (In1 b false)) (f0 : IntKind.i64.wrap (2 * a) = A) (f1 : IntKind.i64.wrap (2 * b) = B) (f2 : IntKind.i64.wrap (2 * c) = C) (f3 : IntKind.i64.wrap (2 * d) = D) (w : World) :
    Calls Try.prog 7 #[.int .i64 a, .int .i64 b, .int .i64 c, .int .i64 d] w fun e w' => e = .returned (.bool true) ∧ Grown w w' := by
  go_enter Try.func7, Try.ntmps7
  go_wp2_with (first
    | ((with_reducible refine (I0.out _).mono ?_); rintro e w' ⟨rfl, rfl⟩)
    | ((with_reducible refine (I1.out _).mono ?_); rintro e w' ⟨rfl, rfl⟩)
    | ((with_reducible refine (I2.out _).mono ?_); rintro e w' ⟨rfl, rfl⟩)
    | ((with_reducible refine (I3.out _).mono ?_); rintro e w' ⟨rfl, rfl⟩)
    | ((with_reducible refine (I4.out _).mono ?_); rintro e w' ⟨rfl, rfl⟩)
    | ((with_reducible refine (I5.out _).mono ?_); rintro e w' ⟨rfl, rfl⟩)
    | ((with_reducible refine (AW.out _).mono ?_); rintro e w' ⟨rfl, gA⟩))
  go_ret
  exact ⟨rfl, grown_trans (by assumption) gA⟩

set_option maxHeartbeats 1000000 in
theorem triangle_out6 (a b c d A B C D : Int) (AW : Hid Awake) (I0 : Hid (In1 A true)) (I1 : Hid (In1 B true)) (I2 : Hid (In1 C true)) (I3 : Hid (In1 D true)) (I4 : Hid (In1 a true)) (I5 : Hid (In1 b true)) (I6 : Hid (In1 c false)) (f0 : IntKind.i64.wrap (2 * a) = A) (f1 : IntKind.i64.wrap (2 * b) = B) (f2 : IntKind.i64.wrap (2 * c) = C) (f3 : IntKind.i64.wrap (2 * d) = D) (w : World) :
    Calls Try.prog 7 #[.int .i64 a, .int .i64 b, .int .i64 c, .int .i64 d] w fun e w' => e = .returned (.bool true) ∧ Grown w w' := by
  go_enter Try.func7, Try.ntmps7
  go_wp2_with (first
    | ((with_reducible refine (I0.out _).mono ?_); rintro e w' ⟨rfl, rfl⟩)
    | ((with_reducible refine (I1.out _).mono ?_); rintro e w' ⟨rfl, rfl⟩)
    | ((with_reducible refine (I2.out _).mono ?_); rintro e w' ⟨rfl, rfl⟩)
    | ((with_reducible refine (I3.out _).mono ?_); rintro e w' ⟨rfl, rfl⟩)
    | ((with_reducible refine (I4.out _).mono ?_); rintro e w' ⟨rfl, rfl⟩)
    | ((with_reducible refine (I5.out _).mono ?_); rintro e w' ⟨rfl, rfl⟩)
    | ((with_reducible refine (I6.out _).mono ?_); rintro e w' ⟨rfl, rfl⟩)
    | ((with_reducible refine (AW.out _).mono ?_); rintro e w' ⟨rfl, gA⟩))
  go_ret
  exact ⟨rfl, grown_trans (by assumption) gA⟩

set_option maxHeartbeats 1000000 in
theorem triangle_out7 (a b c d A B C D : Int) (AW : Hid Awake) (I0 : Hid (In1 A true)) (I1 : Hid (In1 B true)) (I2 : Hid (In1 C true)) (I3 : Hid (In1 D true)) (I4 : Hid (In1 a true)) (I5 : Hid (In1 b true)) (I6 : Hid (In1 c true)) (I7 : Hid (In1 d false)) (f0 : IntKind.i64.wrap (2 * a) = A) (f1 : IntKind.i64.wrap (2 * b) = B) (f2 : IntKind.i64.wrap (2 * c) = C) (f3 : IntKind.i64.wrap (2 * d) = D) (w : World) :
    Calls Try.prog 7 #[.int .i64 a, .int .i64 b, .int .i64 c, .int .i64 d] w fun e w' => e = .returned (.bool true) ∧ Grown w w' := by
  go_enter Try.func7, Try.ntmps7
  go_wp2_with (first
    | ((with_reducible refine (I0.out _).mono ?_); rintro e w' ⟨rfl, rfl⟩)
    | ((with_reducible refine (I1.out _).mono ?_); rintro e w' ⟨rfl, rfl⟩)
    | ((with_reducible refine (I2.out _).mono ?_); rintro e w' ⟨rfl, rfl⟩)
    | ((with_reducible refine (I3.out _).mono ?_); rintro e w' ⟨rfl, rfl⟩)
    | ((with_reducible refine (I4.out _).mono ?_); rintro e w' ⟨rfl, rfl⟩)
    | ((with_reducible refine (I5.out _).mono ?_); rintro e w' ⟨rfl, rfl⟩)
    | ((with_reducible refine (I6.out _).mono ?_); rintro e w' ⟨rfl, rfl⟩)
    | ((with_reducible refine (I7.out _).mono ?_); rintro e w' ⟨rfl, rfl⟩)
    | ((with_reducible refine (AW.out _).mono ?_); rintro e w' ⟨rfl, gA⟩))
  go_ret
  exact ⟨rfl, grown_trans (by assumption) gA⟩

set_option maxHeartbeats 1000000 in
theorem triangle_walk (a b c d A B C D n p q : Int) (AW : Hid Awake) (I0 : Hid (In1 A true)) (I1 : Hid (In1 B true)) (I2 : Hid (In1 C true)) (I3 : Hid (In1 D true)) (I4 : Hid (In1 a true)) (I5 : Hid (In1 b true)) (I6 : Hid (In1 c true)) (I7 : Hid (In1 d true))
    (C1 : Hid (Len2 (a + c) (b + d) n)) (C2 : Hid (Len2 a b p)) (C3 : Hid (Len2 c d q)) (ha : InD a) (hb : InD b) (hc : InD c) (hd : InD d) (hp0 : 0 ≤ p) (hp1 : p ≤ 4294967295) (hq0 : 0 ≤ q) (hq1 : q ≤ 4294967295) (h : n ≤ p + q + 2)
    (f0 : IntKind.i64.wrap (2 * a) = A) (f1 : IntKind.i64.wrap (2 * b) = B) (f2 : IntKind.i64.wrap (2 * c) = C) (f3 : IntKind.i64.wrap (2 * d) = D) (w : World) :
    Calls Try.prog 7 #[.int .i64 a, .int .i64 b, .int .i64 c, .int .i64 d] w fun e w' => e = .returned (.bool true) ∧ Grown w w' := by
  obtain ⟨a1, a2⟩ := ha; obtain ⟨b1, b2⟩ := hb; obtain ⟨c1, c2⟩ := hc; obtain ⟨d1, d2⟩ := hd
  go_enter Try.func7, Try.ntmps7
  go_wp2_with (first
    | ((with_reducible refine (AW.out _).mono ?_); rintro e w' ⟨rfl, g1⟩)
    | ((with_reducible refine (I0.out _).mono ?_); rintro e w' ⟨rfl, rfl⟩)
    | ((with_reducible refine (I1.out _).mono ?_); rintro e w' ⟨rfl, rfl⟩)
    | ((with_reducible refine (I2.out _).mono ?_); rintro e w' ⟨rfl, rfl⟩)
    | ((with_reducible refine (I3.out _).mono ?_); rintro e w' ⟨rfl, rfl⟩)
    | ((with_reducible refine (I4.out _).mono ?_); rintro e w' ⟨rfl, rfl⟩)
    | ((with_reducible refine (I5.out _).mono ?_); rintro e w' ⟨rfl, rfl⟩)
    | ((with_reducible refine (I6.out _).mono ?_); rintro e w' ⟨rfl, rfl⟩)
    | ((with_reducible refine (I7.out _).mono ?_); rintro e w' ⟨rfl, rfl⟩)
    | ((with_reducible refine (C1.out _).mono ?_); rintro e w' ⟨rfl, rfl⟩)
    | ((with_reducible refine (C2.out _).mono ?_); rintro e w' ⟨rfl, rfl⟩)
    | ((with_reducible refine (C3.out _).mono ?_); rintro e w' ⟨rfl, rfl⟩))
  go_ret
  exact ⟨rfl, g1⟩

theorem triangle_all (a b c d : Int) (w : World) : Calls Try.prog 7 #[.int .i64 a, .int .i64 b, .int .i64 c, .int .i64 d] w fun e w' => e = .returned (.bool true) ∧ Grown w w' := by
  obtain ⟨A, f0⟩ : ∃ x, IntKind.i64.wrap (2 * a) = x := ⟨_, rfl⟩
  obtain ⟨B, f1⟩ : ∃ x, IntKind.i64.wrap (2 * b) = x := ⟨_, rfl⟩
  obtain ⟨C, f2⟩ : ∃ x, IntKind.i64.wrap (2 * c) = x := ⟨_, rfl⟩
  obtain ⟨D, f3⟩ : ∃ x, IntKind.i64.wrap (2 * d) = x := ⟨_, rfl⟩
  by_cases h0 : InD A
  case neg => exact triangle_out0 a b c d A (Lib.hid awake_any)  (Lib.hid (in0 h0)) f0 w
  by_cases h1 : InD B
  case neg => exact triangle_out1 a b c d A B (Lib.hid awake_any) (Lib.hid (in1 h0)) (Lib.hid (in0 h1)) f0 f1 w
  by_cases h2 : InD C
  case neg => exact triangle_out2 a b c d A B C (Lib.hid awake_any) (Lib.hid (in1 h0)) (Lib.hid (in1 h1)) (Lib.hid (in0 h2)) f0 f1 f2 w
  by_cases h3 : InD D
  case neg => exact triangle_out3 a b c d A B C D (Lib.hid awake_any) (Lib.hid (in1 h0)) (Lib.hid (in1 h1)) (Lib.hid (in1 h2)) (Lib.hid (in0 h3)) f0 f1 f2 f3 w
  by_cases h4 : InD a
  case neg => exact triangle_out4 a b c d A B C D (Lib.hid awake_any) (Lib.hid (in1 h0)) (Lib.hid (in1 h1)) (Lib.hid (in1 h2)) (Lib.hid (in1 h3)) (Lib.hid (in0 h4)) f0 f1 f2 f3 w
  by_cases h5 : InD b
  case neg => exact triangle_out5 a b c d A B C D (Lib.hid awake_any) (Lib.hid (in1 h0)) (Lib.hid (in1 h1)) (Lib.hid (in1 h2)) (Lib.hid (in1 h3)) (Lib.hid (in1 h4)) (Lib.hid (in0 h5)) f0 f1 f2 f3 w
  by_cases h6 : InD c
  case neg => exact triangle_out6 a b c d A B C D (Lib.hid awake_any) (Lib.hid (in1 h0)) (Lib.hid (in1 h1)) (Lib.hid (in1 h2)) (Lib.hid (in1 h3)) (Lib.hid (in1 h4)) (Lib.hid (in1 h5)) (Lib.hid (in0 h6)) f0 f1 f2 f3 w
  by_cases h7 : InD d
  case neg => exact triangle_out7 a b c d A B C D (Lib.hid awake_any) (Lib.hid (in1 h0)) (Lib.hid (in1 h1)) (Lib.hid (in1 h2)) (Lib.hid (in1 h3)) (Lib.hid (in1 h4)) (Lib.hid (in1 h5)) (Lib.hid (in1 h6)) (Lib.hid (in0 h7)) f0 f1 f2 f3 w
  have k : ∀ v V : Int, IntKind.i64.wrap (2 * v) = V → InD V → InD v → -1090519040 ≤ v ∧ v ≤ 1090519040 := fun v V e g1 g2 => by
    rw [IntKind.wrap_i64] at e
    obtain ⟨x1, x2⟩ := g1; obtain ⟨x3, x4⟩ := g2
    omega
  have ka := k a A f0 h0 h4; have kb := k b B f1 h1 h5; have kc := k c C f2 h2 h6; have kd := k d D f3 h3 h7
  have s1 := ind (a + c) (by omega) (by omega)
  have s2 := ind (b + d) (by omega) (by omega)
  have R1 := rt_is (lsq_in s1 s2).1
  have R2 := rt_is (lsq_in h4 h5).1
  have R3 := rt_is (lsq_in h6 h7).1
  have l2 := lsq_in h4 h5
  have l3 := lsq_in h6 h7
  exact triangle_walk a b c d A B C D _ _ _ (Lib.hid awake_any) (Lib.hid (in1 h0)) (Lib.hid (in1 h1)) (Lib.hid (in1 h2)) (Lib.hid (in1 h3)) (Lib.hid (in1 h4)) (Lib.hid (in1 h5)) (Lib.hid (in1 h6)) (Lib.hid (in1 h7)) (Lib.hid (len2 s1 s2 R1)) (Lib.hid (len2 h4 h5 R2)) (Lib.hid (len2 h6 h7 R3)) h4 h5 h6 h7 R2.1 (R2.le_max (by omega)) R3.1 (R3.le_max (by omega)) (tri R1 R2 R3) f0 f1 f2 f3 w
end Go.Proofs.Ytohkacgmdboknaa
