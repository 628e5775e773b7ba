/-
  The walks of three more laws of package root.
-/
import Derived.Test.YtackomnbdcboaaaRootLaws
namespace Go.Proofs.Ytackomnbdcboaaa
open Go.RowKit Go.Lib

set_option maxRecDepth 100000 in
set_option maxHeartbeats 2000000 in
theorem floor_walk (n r k s u kk : Int) (A : Hid (∀ w, Calls Try.prog 7 #[] w fun e w' => e = .returned (.bool true) ∧ w = w'))
    (C1 : Hid (Isq1 n r)) (C2 : Hid (Isq1 kk k)) (C3 : Hid (Cei1 kk k)) (hr0 : 0 ≤ r) (hr1 : r ≤ 4294967295) (hsn : s ≤ n)
    (f1 : r * r = s) (f2 : IntKind.u64.wrap s = s) (f3 : n % 4294967296 = k) (f3' : n.tmod 4294967296 = k) (f4 : k * k = kk) (f5 : IntKind.u64.wrap kk = kk)
    (hu : 4294967295 ≤ r ∨ (r < 4294967295 ∧ n < u ∧ (r + 1) * (r + 1) = u ∧ IntKind.u64.wrap u = u)) (w : World) :
    Calls Try.prog 4 #[.int .u64 n] w fun e w' => e = .returned (.bool true) ∧ w = w' := by
  rcases hu with hu | ⟨hu, hu1, hu2, hu3⟩
  all_goals
    go_enter Try.func4, Try.ntmps4
    go_wp2_with (first
      | ((with_reducible refine (A.out _).mono ?_); rintro e w' ⟨rfl, rfl⟩)
      | ((with_reducible refine (C1.out _).mono ?_); rintro e w' ⟨rfl, rfl⟩)
      | ((with_reducible refine (C2.out _).mono ?_); rintro e w' ⟨rfl, rfl⟩)
      | ((with_reducible refine (C3.out _).mono ?_); rintro e w' ⟨rfl, rfl⟩))
    go_ret
    exact ⟨rfl, rfl⟩

theorem sq_word {r : Int} (h0 : 0 ≤ r) (h1 : r ≤ 4294967295) : 0 ≤ r * r ∧ r * r < 18446744073709551616 :=
  ⟨Int.mul_nonneg h0 h0, by have := sq_le h0 h1; omega⟩
theorem wrap_word {s : Int} (h0 : 0 ≤ s) (h1 : s < 18446744073709551616) : IntKind.u64.wrap s = s := by rw [IntKind.wrap_u64]; omega

theorem floor_all (n : Int) (hn0 : 0 ≤ n) (hn1 : n < 18446744073709551616) (w : World) :
    Calls Try.prog 4 #[.int .u64 n] w fun e w' => e = .returned (.bool true) ∧ w = w' := by
  have R := rt_is hn0
  have rm := R.le_max hn1
  obtain ⟨k, hk⟩ : ∃ k, k = n % 4294967296 := ⟨_, rfl⟩
  have k0 : 0 ≤ k := by omega
  have k1 : k ≤ 4294967295 := by omega
  obtain ⟨s0, s1⟩ := sq_word R.1 rm
  obtain ⟨q0, q1⟩ := sq_word k0 k1
  refine floor_walk n (rt n) k _ ((rt n + 1) * (rt n + 1)) _ (Lib.hid awake_any) (Lib.hid (isq1 R hn1)) (Lib.hid (isq1 (IsRoot.of_sq k0) q1)) (Lib.hid (cei1 q0 (ct_sq k0) q1)) R.1 rm R.2.1
    rfl (wrap_word s0 s1) hk.symm (by rw [Int.tmod_eq_emod_of_nonneg hn0, hk]) rfl (wrap_word q0 q1) ?_ w
  by_cases c : 4294967295 ≤ rt n
  · exact .inl c
  · obtain ⟨p0, p1⟩ := sq_word (r := rt n + 1) (by have := R.1; omega) (by omega)
    exact .inr ⟨by omega, R.2.2, rfl, wrap_word p0 p1⟩

set_option maxRecDepth 100000 in
set_option maxHeartbeats 2000000 in
theorem monotone_walk (n m lo hi a b c d : Int) (A : Hid (∀ w, Calls Try.prog 7 #[] w fun e w' => e = .returned (.bool true) ∧ w = w'))
    (hnm : (m < n ∧ lo = m ∧ hi = n) ∨ (n ≤ m ∧ lo = n ∧ hi = m)) (C1 : Hid (Isq1 lo a)) (C2 : Hid (Isq1 hi b)) (C3 : Hid (Cei1 lo c)) (C4 : lo < 18446744073709551615 → Hid (Isq1 (lo + 1) d))
    (h0 : 0 ≤ lo) (ha0 : 0 ≤ a) (ha1 : a ≤ 4294967295) (hab : a ≤ b) (hac : a ≤ c) (hca : c ≤ a + 1) (hd : d = a ∨ d = a + 1)
    (ht : (lo == 18446744073709551615) = true ∨ ((lo == 18446744073709551615) = false ∧ lo < 18446744073709551615)) (w : World) :
    Calls Try.prog 5 #[.int .u64 n, .int .u64 m] w fun e w' => e = .returned (.bool true) ∧ w = w' := by
  rcases ht with ht | ⟨ht, hlt⟩
  · clear C4 hd
    rcases hnm with ⟨hnm, rfl, rfl⟩ | ⟨hnm, rfl, rfl⟩
    all_goals
      go_enter Try.func5, Try.ntmps5
      go_wp2_with (first
        | ((with_reducible refine (A.out _).mono ?_); rintro e w' ⟨rfl, rfl⟩)
        | ((with_reducible refine (C1.out _).mono ?_); rintro e w' ⟨rfl, rfl⟩)
        | ((with_reducible refine (C2.out _).mono ?_); rintro e w' ⟨rfl, rfl⟩)
        | ((with_reducible refine (C3.out _).mono ?_); rintro e w' ⟨rfl, rfl⟩))
      go_ret
      exact ⟨rfl, rfl⟩
  · have D := C4 hlt
    clear C4
    have g : (a + 1 == a) = false := by simp; omega
    rcases hd with rfl | rfl <;> rcases hnm with ⟨hnm, rfl, rfl⟩ | ⟨hnm, rfl, rfl⟩
    all_goals
      go_enter Try.func5, Try.ntmps5
      go_wp2_with (first
        | ((with_reducible refine (A.out _).mono ?_); rintro e w' ⟨rfl, rfl⟩)
        | ((with_reducible refine (C1.out _).mono ?_); rintro e w' ⟨rfl, rfl⟩)
        | ((with_reducible refine (C2.out _).mono ?_); rintro e w' ⟨rfl, rfl⟩)
        | ((with_reducible refine (C3.out _).mono ?_); rintro e w' ⟨rfl, rfl⟩)
        | ((with_reducible refine (D.out _).mono ?_); rintro e w' ⟨rfl, rfl⟩))
      go_ret
      exact ⟨rfl, rfl⟩

theorem root_succ {a d n : Int} (h : IsRoot a n) (g : IsRoot d (n + 1)) : d = a ∨ d = a + 1 := by
  have h1 := h.mono g (by omega)
  by_cases c : d ≤ a + 1
  · omega
  · have := sq_lt (a := a + 1) (b := d) (by have := h.1; omega) (by omega)
    have := h.2.2
    have := g.2.1
    omega

theorem monotone_all (n m : Int) (hn0 : 0 ≤ n) (hn1 : n < 18446744073709551616) (hm0 : 0 ≤ m) (hm1 : m < 18446744073709551616) (w : World) :
    Calls Try.prog 5 #[.int .u64 n, .int .u64 m] w fun e w' => e = .returned (.bool true) ∧ w = w' := by
  have key : ∀ lo hi : Int, ((m < n ∧ lo = m ∧ hi = n) ∨ (n ≤ m ∧ lo = n ∧ hi = m)) → 0 ≤ lo → lo ≤ hi → hi < 18446744073709551616 →
      Calls Try.prog 5 #[.int .u64 n, .int .u64 m] w fun e w' => e = .returned (.bool true) ∧ w = w' := by
    intro lo hi hc h0 hlh h1
    have R := rt_is h0
    have S := rt_is (n := hi) (by omega)
    have T := rt_is (n := lo + 1) (by omega)
    have cb := ct_bounds lo
    have l1 : lo < 18446744073709551616 := by omega
    refine monotone_walk n m lo hi (rt lo) (rt hi) (ct lo) (rt (lo + 1)) (Lib.hid awake_any) hc (Lib.hid (isq1 R l1)) (Lib.hid (isq1 S h1)) (Lib.hid (cei1 h0 rfl l1)) (fun g => Lib.hid (isq1 T (by omega))) h0 R.1 (R.le_max l1) (R.mono S hlh) cb.1 cb.2 (root_succ R T) ?_ w
    by_cases e : lo = 18446744073709551615
    · exact .inl (by rw [e]; rfl)
    · exact .inr ⟨by rw [beq_eq_false_iff_ne]; exact e, by omega⟩
  by_cases c : m < n
  · exact key m n (.inl ⟨c, rfl, rfl⟩) hm0 (by omega) hn1
  · exact key n m (.inr ⟨by omega, rfl, rfl⟩) hn0 (by omega) hm1

set_option maxRecDepth 100000 in
set_option maxHeartbeats 2000000 in
theorem sqrt_walk_neg (a : Int) (A : Hid (∀ w, Calls Try.prog 7 #[] w fun e w' => e = .returned (.bool true) ∧ w = w')) (h : a < 0) (w : World) :
    Calls Try.prog 6 #[.int .i32 a] w fun e w' => e = .returned (.bool true) ∧ w = w' := by
  go_enter Try.func6, Try.ntmps6
  go_wp2_with ((with_reducible refine (A.out _).mono ?_); rintro e w' ⟨rfl, rfl⟩)
  go_ret
  exact ⟨rfl, rfl⟩

set_option maxRecDepth 100000 in
set_option maxHeartbeats 2000000 in
theorem sqrt_walk (a r s u : Int) (A : Hid (∀ w, Calls Try.prog 7 #[] w fun e w' => e = .returned (.bool true) ∧ w = w')) (C : Hid (Sqr1 a r 0))
    (h0 : 0 ≤ a) (h1 : a < 2147483648) (hr0 : 0 ≤ r) (hr1 : r < 16777216) (f1 : r * r = s) (f2' : IntKind.i64.wrap s = s) (hs : s ≤ a * 65536) (f3 : (r + 1) * (r + 1) = u) (f4' : IntKind.i64.wrap u = u) (hu : a * 65536 < u) (w : World) :
    Calls Try.prog 6 #[.int .i32 a] w fun e w' => e = .returned (.bool true) ∧ w = w' := by
  go_enter Try.func6, Try.ntmps6
  go_wp2_with (first
    | ((with_reducible refine (A.out _).mono ?_); rintro e w' ⟨rfl, rfl⟩)
    | ((with_reducible refine (C.out _).mono ?_); rintro e w' ⟨rfl, rfl⟩))
  go_ret
  exact ⟨rfl, rfl⟩

theorem sqrt_all (a : Int) (_h0 : -2147483648 ≤ a) (h1 : a < 2147483648) (w : World) :
    Calls Try.prog 6 #[.int .i32 a] w fun e w' => e = .returned (.bool true) ∧ w = w' := by
  by_cases h : a < 0
  · exact sqrt_walk_neg a (Lib.hid awake_any) h w
  · have R := rt_is (n := a * 65536) (by omega)
    have rs := small_root R h1
    have e1 := sq_le R.1 (show rt (a * 65536) ≤ 16777216 by omega)
    have e2 := sq_le (a := rt (a * 65536) + 1) (b := 16777216) (by have := R.1; omega) (by omega)
    have e3 := Int.mul_nonneg R.1 R.1
    have e4 := R.2.2
    have hw : ∀ z : Int, 0 ≤ z → z ≤ 16777216 * 16777216 → IntKind.i64.wrap z = z := fun z z0 z1 => by rw [IntKind.wrap_i64]; omega
    have w1 := hw _ e3 e1
    have w2 := hw _ (by omega) e2
    exact sqrt_walk a _ _ _ (Lib.hid awake_any) (Lib.hid (sqr1 R (by omega) h1)) (by omega) h1 R.1 rs rfl w1 R.2.1 rfl w2 R.2.2 w
end Go.Proofs.Ytackomnbdcboaaa
