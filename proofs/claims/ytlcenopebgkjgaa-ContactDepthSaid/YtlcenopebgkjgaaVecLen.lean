/-
  Package vec: differences, their lengths and unit vectors, for all arguments in range.
-/
import Derived.Test.YtlcenopebgkjgaaVec
namespace Go.Proofs.Ytlcenopebgkjgaa
open Go.RowKit Go.Lib

/-- A component of a difference, in range. -/
def InD (d : Int) : Prop := -2181038080 ≤ d ∧ d ≤ 2181038080
/-- The sum of the squares. -/
def lsq (a b : Int) : Int := a * a + b * b
/-- A component of the unit vector. -/
def un (d n : Int) : Int := d * 65536 / n

theorem sq_in {d : Int} (h : InD d) : 0 ≤ d * d ∧ d * d ≤ 4756927106410086400 := by
  obtain ⟨h1, h2⟩ := h
  by_cases c : 0 ≤ d
  · exact ⟨Int.mul_nonneg c c, Int.mul_le_mul h2 h2 c (by decide)⟩
  · have e : d * d = -d * -d := (Int.neg_mul_neg d d).symm
    rw [e]
    exact ⟨Int.mul_nonneg (by omega) (by omega), Int.mul_le_mul (show -d ≤ 2181038080 by omega) (show -d ≤ 2181038080 by omega) (by omega) (by decide)⟩
theorem lsq_in {a b : Int} (ha : InD a) (hb : InD b) : 0 ≤ lsq a b ∧ lsq a b ≤ 9513854212820172800 := by
  have := sq_in ha; have := sq_in hb; unfold lsq; omega

theorem lengthsq_any (a b t : Int) (ha : InD a) (hb : InD b) (ht : lsq a b = t) (w : World) :
    Calls Try.prog 34 #[.int .i64 a, .int .i64 b] w fun e w' => e = .returned (.int .u64 t) ∧ w = w' := by
  have m1 := sq_in ha
  have m2 := sq_in hb
  obtain ⟨h1, h2⟩ := ha; obtain ⟨h3, h4⟩ := hb
  unfold lsq at ht
  obtain ⟨x, hx⟩ : ∃ x, x = a * a := ⟨_, rfl⟩
  obtain ⟨y, hy⟩ : ∃ y, y = b * b := ⟨_, rfl⟩
  rw [← hx, ← hy] at ht
  rw [← hx] at m1
  rw [← hy] at m2
  have e1 : a * a = x := hx.symm
  have e2 : b * b = y := hy.symm
  have f1 : IntKind.i64.wrap x = x := by rw [IntKind.wrap_i64]; omega
  have f2 : IntKind.i64.wrap y = y := by rw [IntKind.wrap_i64]; omega
  have f3 : wrap64 x = x := by unfold wrap64; omega
  have f4 : wrap64 y = y := by unfold wrap64; omega
  have f5 : IntKind.u64.wrap x = x := by rw [IntKind.wrap_u64]; omega
  have f6 : IntKind.u64.wrap y = y := by rw [IntKind.wrap_u64]; omega
  have f7 : IntKind.u64.wrap (x + y) = t := by rw [IntKind.wrap_u64]; omega
  clear hx hy ht m1 m2
  go_enter Try.func34, Try.ntmps34
  go_wp2
  go_ret
  exact ⟨rfl, rfl⟩

theorem length_any (a b n : Int) (ha : InD a) (hb : InD b) (hn : Hid (IsRoot n (lsq a b))) (w : World) :
    Calls Try.prog 24 #[.int .i64 a, .int .i64 b] w fun e w' => e = .returned (.int .i64 n) ∧ w = w' := by
  have hl := lsq_in ha hb
  have C1 := Lib.hid (lengthsq_any a b (lsq a b) ha hb rfl)
  have C2 := Lib.hid (isq1 hn.out (by omega))
  have h1 := hn.out.le_max (by omega)
  have h0 := hn.out.1
  go_enter Try.func24, Try.ntmps24
  go_wp2_with (first
    | ((with_reducible refine (C1.out _).mono ?_); rintro e w1 ⟨rfl, rfl⟩)
    | ((with_reducible refine (C2.out _).mono ?_); rintro e w1 ⟨rfl, rfl⟩))
  go_ret
  exact ⟨rfl, rfl⟩

theorem fl_trunc (a b : Int) (hb0 : 0 < b) : (a.tmod b < 0 → a / b = a.tdiv b - 1) ∧ (0 ≤ a.tmod b → a / b = a.tdiv b) := by
  have hd := Int.mul_tdiv_add_tmod a b
  have hl := Int.tmod_lt_of_pos a hb0
  have hg : -b < a.tmod b := Int.lt_tmod_of_pos a hb0
  obtain ⟨q, hq⟩ : ∃ q, q = a.tdiv b := ⟨_, rfl⟩
  obtain ⟨r, hr⟩ : ∃ r, r = a.tmod b := ⟨_, rfl⟩
  rw [← hq, ← hr] at hd
  rw [← hr] at hl hg
  rw [← hr, ← hq]
  constructor
  · intro c
    rw [Int.ediv_eq_iff_of_pos hb0, Int.sub_mul, Int.mul_comm q b]; omega
  · intro c
    rw [Int.ediv_eq_iff_of_pos hb0, Int.mul_comm q b]; omega

theorem un_in {d n : Int} (hn : 0 < n) (h1 : -n ≤ d) (h2 : d ≤ n) : -65536 ≤ un d n ∧ un d n ≤ 65536 := by
  unfold un
  constructor
  · rw [Int.le_ediv_iff_mul_le hn]; omega
  · have := Int.ediv_le_ediv hn (show d * 65536 ≤ 65536 * n by omega)
    rwa [Int.mul_ediv_cancel _ (by omega)] at this

theorem ratio_any (d n q : Int) (hd : InD d) (hn : 0 < n) (hn1 : n < 4294967296) (h1 : -n ≤ d) (h2 : d ≤ n) (hq : un d n = q) (w : World) :
    Calls Try.prog 35 #[.int .i64 d, .int .i64 n] w fun e w' => e = .returned (.int .i32 q) ∧ w = w' := by
  have hu := un_in hn h1 h2
  have ht := fl_trunc (d * 65536) n hn
  have hbz : (n == 0) = false := by simp; omega
  rw [hq] at hu
  unfold un at hq
  rw [hq] at ht
  have hdd := Int.mul_tdiv_add_tmod (d * 65536) n
  have hl := Int.tmod_lt_of_pos (d * 65536) hn
  have hg : -n < (d * 65536).tmod n := Int.lt_tmod_of_pos (d * 65536) hn
  obtain ⟨k1, k2⟩ := hd
  obtain ⟨t, hT⟩ : ∃ t, t = (d * 65536).tdiv n := ⟨_, rfl⟩
  obtain ⟨r, hr⟩ : ∃ r, r = (d * 65536).tmod n := ⟨_, rfl⟩
  rw [← hT, ← hr] at ht
  rw [← hr] at hl hg
  clear hdd hq
  have r1 : -4294967296 ≤ r := by omega
  have r2 : r ≤ 4294967296 := by omega
  obtain ⟨D, hD⟩ : ∃ D, D = d * 65536 := ⟨_, rfl⟩
  rw [← hD] at hT hr
  have d1 : -142936511610880 ≤ D := by omega
  have d2 : D ≤ 142936511610880 := by omega
  have e0 : d * 65536 = D := hD.symm
  by_cases c : r < 0
  · have e := ht.1 c
    have t1 : -65537 ≤ t := by omega
    have t2 : t ≤ 65537 := by omega
    have W1 : IntKind.i64.wrap (D.tdiv n) = t := by rw [← hT, IntKind.wrap_i64]; omega
    have W2 : IntKind.i64.wrap (D.tmod n) = r := by rw [← hr, IntKind.wrap_i64]; omega
    have W6 : D.tdiv n = t := hT.symm
    have W7 : D.tmod n = r := hr.symm
    have W3 : wrap64 (D.tdiv n) = t := by rw [← hT]; unfold wrap64; omega
    have W4 : wrap64 (D.tmod n) = r := by rw [← hr]; unfold wrap64; omega
    have W5 : IntKind.i32.wrap (t - 1) = t - 1 := by rw [IntKind.wrap_i32]; omega
    rw [e]
    clear e ht hT hr hD
    go_enter Try.func35, Try.ntmps35
    go_wp2
    go_ret
    exact ⟨rfl, rfl⟩
  · have e := ht.2 (by omega)
    have t1 : -65537 ≤ t := by omega
    have t2 : t ≤ 65537 := by omega
    have W1 : IntKind.i64.wrap (D.tdiv n) = t := by rw [← hT, IntKind.wrap_i64]; omega
    have W2 : IntKind.i64.wrap (D.tmod n) = r := by rw [← hr, IntKind.wrap_i64]; omega
    have W6 : D.tdiv n = t := hT.symm
    have W7 : D.tmod n = r := hr.symm
    have W3 : wrap64 (D.tdiv n) = t := by rw [← hT]; unfold wrap64; omega
    have W4 : wrap64 (D.tmod n) = r := by rw [← hr]; unfold wrap64; omega
    have W5 : IntKind.i32.wrap t = t := by rw [IntKind.wrap_i32]; omega
    rw [e]
    clear e ht hT hr hD
    go_enter Try.func35, Try.ntmps35
    go_wp2
    go_ret
    exact ⟨rfl, rfl⟩

theorem root_ge {a b n : Int} (h : IsRoot n (lsq a b)) : (-n ≤ a ∧ a ≤ n) ∧ (-n ≤ b ∧ b ≤ n) := by
  have k : ∀ x y : Int, IsRoot n (x * x + y * y) → -n ≤ x ∧ x ≤ n := fun x y g => by
    have hy : 0 ≤ y * y := by
      by_cases c : 0 ≤ y
      · exact Int.mul_nonneg c c
      · rw [← Int.neg_mul_neg]; exact Int.mul_nonneg (by omega) (by omega)
    by_cases c : 0 ≤ x
    · have := (g.iff c).mp (by omega); omega
    · have := (g.iff (t := -x) (by omega)).mp (by rw [Int.neg_mul_neg]; omega); omega
  unfold lsq at h
  exact ⟨k a b h, k b a (by rw [Int.add_comm]; exact h)⟩

theorem unit_zero (a b : Int) (ha : InD a) (hb : InD b) (hn : Hid (IsRoot 0 (lsq a b))) (w : World) :
    Calls Try.prog 23 #[.int .i64 a, .int .i64 b] w fun e w' => e = .returned (.agg #[.int .i32 65536, .int .i32 0]) ∧ Grown w w' := by
  have C1 := Lib.hid (length_any a b 0 ha hb hn)
  go_enter Try.func23, Try.ntmps23
  go_wp2_with ((with_reducible refine (C1.out _).mono ?_); rintro e w1 ⟨rfl, rfl⟩)
  exact bodyPost_ret (v := .agg #[.int .i32 65536, .int .i32 0]) (by simp [results, Try.results23, go_sem]) rfl ⟨rfl, (Grown.refl _).alloc _ _⟩

theorem unit_pos (a b n x y : Int) (ha : InD a) (hb : InD b) (h0 : 0 < n) (hn : Hid (IsRoot n (lsq a b))) (hx : un a n = x) (hy : un b n = y) (w : World) :
    Calls Try.prog 23 #[.int .i64 a, .int .i64 b] w fun e w' => e = .returned (.agg #[.int .i32 x, .int .i32 y]) ∧ Grown w w' := by
  have C1 := Lib.hid (length_any a b n ha hb hn)
  have hl := lsq_in ha hb
  have h1 := hn.out.le_max (by omega)
  have g := root_ge hn.out
  have C2 := Lib.hid (ratio_any a n x ha h0 (by omega) g.1.1 g.1.2 hx)
  have C3 := Lib.hid (ratio_any b n y hb h0 (by omega) g.2.1 g.2.2 hy)
  have hz : (n == 0) = false := by simp; omega
  clear hx hy hl g
  go_enter Try.func23, Try.ntmps23
  go_wp2_with (first
    | ((with_reducible refine (C1.out _).mono ?_); rintro e w1 ⟨rfl, rfl⟩)
    | ((with_reducible refine (C2.out _).mono ?_); rintro e w1 ⟨rfl, rfl⟩)
    | ((with_reducible refine (C3.out _).mono ?_); rintro e w1 ⟨rfl, rfl⟩))
  exact bodyPost_ret (v := .agg #[.int .i32 x, .int .i32 y]) (by simp [results, Try.results23, go_sem]) rfl ⟨rfl, (Grown.refl _).alloc _ _⟩
end Go.Proofs.Ytlcenopebgkjgaa
