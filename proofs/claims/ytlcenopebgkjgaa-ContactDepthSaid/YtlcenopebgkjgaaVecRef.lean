/-
  The reference implementation of package vec: each function returns the same as the program's.
-/
import Derived.Test.YtlcenopebgkjgaaVecLen
import Derived.Test.YtlcenopebgkjgaaFxRef
namespace Go.Proofs.Ytlcenopebgkjgaa
open Go.RowKit Go.Lib

theorem sq_abs (a : Int) : -a * -a = a * a := Int.neg_mul_neg a a

set_option maxHeartbeats 1000000 in
theorem reflsq_any (a b t : Int) (ha : InD a) (hb : InD b) (ht : lsq a b = t) (w : World) :
    Calls Try.prog 40 #[.int .i64 a, .int .i64 b] w fun e w' => e = .returned (.int .u64 t) ∧ w = w' := by
  have m1 := sq_in ha
  have m2 := sq_in hb
  obtain ⟨h1, h2⟩ := ha; obtain ⟨h3, h4⟩ := hb
  unfold lsq at ht
  have s1 := sq_abs a
  have s2 := sq_abs b
  obtain ⟨x, hx⟩ : ∃ x, x = a * a := ⟨_, rfl⟩
  obtain ⟨y, hy⟩ : ∃ y, y = b * b := ⟨_, rfl⟩
  rw [← hx, ← hy] at ht
  rw [← hx] at m1 s1
  rw [← hy] at m2 s2
  have f5 : IntKind.u64.wrap x = x := by rw [IntKind.wrap_u64]; omega
  have f6 : IntKind.u64.wrap y = y := by rw [IntKind.wrap_u64]; omega
  have f7 : IntKind.u64.wrap (x + y) = t := by rw [IntKind.wrap_u64]; omega
  clear ht m1 m2
  by_cases c1 : a < 0
  · by_cases c2 : b < 0
    · obtain ⟨p1, hp1⟩ : ∃ p, p = -a := ⟨_, rfl⟩
      have g1 : 0 ≤ p1 := by omega
      have k1 : p1 ≤ 2181038080 := by omega
      rw [← hp1] at s1
      have n1 : -a = p1 := hp1.symm
      have q1 : IntKind.u64.wrap p1 = p1 := by rw [IntKind.wrap_u64]; omega
      have hppp1 := hp1
      clear hp1 hppp1
      obtain ⟨p2, hp2⟩ : ∃ p, p = -b := ⟨_, rfl⟩
      have g2 : 0 ≤ p2 := by omega
      have k2 : p2 ≤ 2181038080 := by omega
      rw [← hp2] at s2
      have n2 : -b = p2 := hp2.symm
      have q2 : IntKind.u64.wrap p2 = p2 := by rw [IntKind.wrap_u64]; omega
      have hppp2 := hp2
      clear hp2 hppp2
      clear hx hy
      go_enter Try.func40, Try.ntmps40
      go_wp2
      go_ret
      exact ⟨rfl, rfl⟩
    · obtain ⟨p1, hp1⟩ : ∃ p, p = -a := ⟨_, rfl⟩
      have g1 : 0 ≤ p1 := by omega
      have k1 : p1 ≤ 2181038080 := by omega
      rw [← hp1] at s1
      have n1 : -a = p1 := hp1.symm
      have q1 : IntKind.u64.wrap p1 = p1 := by rw [IntKind.wrap_u64]; omega
      have hppp1 := hp1
      clear hp1 hppp1
      have g2 : 0 ≤ b := by omega
      have e2 : b * b = y := hy.symm
      have q2 : IntKind.u64.wrap b = b := by rw [IntKind.wrap_u64]; omega
      clear s2
      clear hx hy
      go_enter Try.func40, Try.ntmps40
      go_wp2
      go_ret
      exact ⟨rfl, rfl⟩
  · by_cases c2 : b < 0
    · have g1 : 0 ≤ a := by omega
      have e1 : a * a = x := hx.symm
      have q1 : IntKind.u64.wrap a = a := by rw [IntKind.wrap_u64]; omega
      clear s1
      obtain ⟨p2, hp2⟩ : ∃ p, p = -b := ⟨_, rfl⟩
      have g2 : 0 ≤ p2 := by omega
      have k2 : p2 ≤ 2181038080 := by omega
      rw [← hp2] at s2
      have n2 : -b = p2 := hp2.symm
      have q2 : IntKind.u64.wrap p2 = p2 := by rw [IntKind.wrap_u64]; omega
      have hppp2 := hp2
      clear hp2 hppp2
      clear hx hy
      go_enter Try.func40, Try.ntmps40
      go_wp2
      go_ret
      exact ⟨rfl, rfl⟩
    · have g1 : 0 ≤ a := by omega
      have e1 : a * a = x := hx.symm
      have q1 : IntKind.u64.wrap a = a := by rw [IntKind.wrap_u64]; omega
      clear s1
      have g2 : 0 ≤ b := by omega
      have e2 : b * b = y := hy.symm
      have q2 : IntKind.u64.wrap b = b := by rw [IntKind.wrap_u64]; omega
      clear s2
      clear hx hy
      go_enter Try.func40, Try.ntmps40
      go_wp2
      go_ret
      exact ⟨rfl, rfl⟩

theorem reflen_any (a b n : Int) (ha : InD a) (hb : InD b) (hn : Hid (IsRoot n (lsq a b))) (w : World) :
    Calls Try.prog 28 #[.int .i64 a, .int .i64 b] w fun e w' => e = .returned (.int .i64 n) ∧ w = w' := by
  have hl := lsq_in ha hb
  have C1 := Lib.hid (reflsq_any a b (lsq a b) ha hb rfl)
  have C2 := Lib.hid (rsq1 hn.out (by omega))
  have h1 := hn.out.le_max (by omega)
  have h0 := hn.out.1
  go_enter Try.func28, Try.ntmps28
  go_wp2_with (first
    | ((with_reducible refine (C1.out _).mono ?_); rintro e w1 ⟨rfl, rfl⟩)
    | ((with_reducible refine (C2.out _).mono ?_); rintro e w1 ⟨rfl, rfl⟩))
  go_ret
  exact ⟨rfl, rfl⟩

theorem refunit_zero (w : World) :
    Calls Try.prog 27 #[.int .i64 0, .int .i64 0] w fun e w' => e = .returned (.agg #[.int .i32 65536, .int .i32 0]) ∧ Grown w w' := by
  go_enter Try.func27, Try.ntmps27
  go_wp2
  exact bodyPost_ret (v := .agg #[.int .i32 65536, .int .i32 0]) (by simp [results, Try.results27, go_sem]) rfl ⟨rfl, (Grown.refl _).alloc _ _⟩

theorem refunit_pos (a b n x y : Int) (ha : InD a) (hb : InD b) (h0 : 0 < n) (hz : a ≠ 0 ∨ b ≠ 0) (hn : Hid (IsRoot n (lsq a b))) (hx : un a n = x) (hy : un b n = y) (w : World) :
    Calls Try.prog 27 #[.int .i64 a, .int .i64 b] w fun e w' => e = .returned (.agg #[.int .i32 x, .int .i32 y]) ∧ Grown w w' := by
  have C1 := Lib.hid (reflen_any a b n ha hb hn)
  have hl := lsq_in ha hb
  have h1 := hn.out.le_max (by omega)
  have g := root_ge hn.out
  have u1 := un_in h0 g.1.1 g.1.2
  have u2 := un_in h0 g.2.1 g.2.2
  rw [hx] at u1
  rw [hy] at u2
  unfold un at hx hy
  obtain ⟨k1, k2⟩ := ha; obtain ⟨k3, k4⟩ := hb
  have C2 := Lib.hid (fun w => show Calls Try.prog 41 #[.int .i64 (a * 65536), .int .i64 n] w fun e w' => e = .returned (.int .i64 x) ∧ w = w' from by
    rw [← hx]; exact reffl_any (a * 65536) n (ik64 _ (by omega) (by omega)) h0 (by omega) w)
  have C3 := Lib.hid (fun w => show Calls Try.prog 41 #[.int .i64 (b * 65536), .int .i64 n] w fun e w' => e = .returned (.int .i64 y) ∧ w = w' from by
    rw [← hy]; exact reffl_any (b * 65536) n (ik64 _ (by omega) (by omega)) h0 (by omega) w)
  clear hx hy hl g
  have f1 : IntKind.i32.wrap x = x := by rw [IntKind.wrap_i32]; omega
  have f2 : IntKind.i32.wrap y = y := by rw [IntKind.wrap_i32]; omega
  by_cases c1 : a = 0
  · subst c1
    have c2 : (b == 0) = false := by simp; omega
    have c3 : decide (b = 0) = false := by simp; omega
    clear hz
    rw [Int.zero_mul] at C2
    go_enter Try.func27, Try.ntmps27
    go_wp2_with (first
      | ((with_reducible refine (C1.out _).mono ?_); rintro e w1 ⟨rfl, rfl⟩)
      | ((with_reducible refine (C2.out _).mono ?_); rintro e w1 ⟨rfl, rfl⟩)
      | ((with_reducible refine (C3.out _).mono ?_); rintro e w1 ⟨rfl, rfl⟩))
    exact bodyPost_ret (v := .agg #[.int .i32 x, .int .i32 y]) (by simp [results, Try.results27, go_sem]) rfl ⟨rfl, (Grown.refl _).alloc _ _⟩
  · have c2 : (a == 0) = false := by simp; omega
    clear hz
    go_enter Try.func27, Try.ntmps27
    go_wp2_with (first
      | ((with_reducible refine (C1.out _).mono ?_); rintro e w1 ⟨rfl, rfl⟩)
      | ((with_reducible refine (C2.out _).mono ?_); rintro e w1 ⟨rfl, rfl⟩)
      | ((with_reducible refine (C3.out _).mono ?_); rintro e w1 ⟨rfl, rfl⟩))
    exact bodyPost_ret (v := .agg #[.int .i32 x, .int .i32 y]) (by simp [results, Try.results27, go_sem]) rfl ⟨rfl, (Grown.refl _).alloc _ _⟩

end Go.Proofs.Ytlcenopebgkjgaa
