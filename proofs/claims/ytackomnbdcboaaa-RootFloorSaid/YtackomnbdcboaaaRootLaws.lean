/-
  The fixed examples of package root, and the walks of its laws.
-/
import Derived.Test.YtackomnbdcboaaaRootRef
namespace Go.Proofs.Ytackomnbdcboaaa
open Go.RowKit Go.Lib

theorem grow {f : Nat} {args : Array Value} {w : World} {e0 : Ending} (h : Calls Try.prog f args w fun e w' => e = e0 ∧ w = w') : Calls Try.prog f args w fun e w' => e = e0 ∧ Grown w w' :=
  h.mono fun _ _ ⟨a, b⟩ => ⟨a, by rw [← b]; exact Grown.refl _⟩

abbrev Isq1 (n q : Int) : Prop := ∀ w, Calls Try.prog 10 #[.int .u64 n] w fun e w' => e = .returned (.int .u64 q) ∧ w = w'
abbrev Cei1 (n q : Int) : Prop := ∀ w, Calls Try.prog 11 #[.int .u64 n] w fun e w' => e = .returned (.int .u64 q) ∧ w = w'
abbrev Rsq1 (n q : Int) : Prop := ∀ w, Calls Try.prog 9 #[.int .u64 n] w fun e w' => e = .returned (.int .u64 q) ∧ w = w'
abbrev Rei1 (n q : Int) : Prop := ∀ w, Calls Try.prog 12 #[.int .u64 n] w fun e w' => e = .returned (.int .u64 q) ∧ w = w'
abbrev Sqr1 (a q e : Int) : Prop := ∀ w, Calls Try.prog 8 #[.int .i32 a] w fun e' w' => e' = .returned (.tuple #[.int .i32 q, .int .i64 e]) ∧ w = w'

theorem isq1 {n r : Int} (hr : IsRoot r n) (h1 : n < 18446744073709551616) : Isq1 n r := fun w => isqrt_any n r (Lib.hid hr) h1 w
theorem rsq1 {n r : Int} (hr : IsRoot r n) (h1 : n < 18446744073709551616) : Rsq1 n r := fun w => refisqrt_any n r (Lib.hid hr) h1 w
theorem ct_or {n r : Int} (hr : IsRoot r n) : (r * r < n ∧ ct n = r + 1) ∨ (r * r = n ∧ ct n = r) := by
  have e := rt_eq hr
  have := hr.2.1
  unfold ct; rw [e]; split <;> omega
theorem cei1 {n c : Int} (h0 : 0 ≤ n) (hc : ct n = c) (h1 : n < 18446744073709551616) : Cei1 n c := fun w => ceil_any n (rt n) c (Lib.hid (rt_is h0)) (Lib.hid (by rw [← hc]; exact ct_or (rt_is h0))) h1 w
theorem rei1 {n c : Int} (h0 : 0 ≤ n) (hc : ct n = c) (h1 : n < 18446744073709551616) : Rei1 n c := fun w => refceil_any n (rt n) c (Lib.hid (rt_is h0)) (Lib.hid (by rw [← hc]; exact ct_or (rt_is h0))) h1 w
theorem sqr1 {a r : Int} (hr : IsRoot r (a * 65536)) (h0 : 0 ≤ a) (h1 : a < 2147483648) : Sqr1 a r 0 := fun w => sqrt_any a r (Lib.hid hr) h0 h1 w
theorem sqr0 {a : Int} (h0 : a < 0) : Sqr1 a 0 1 := fun w => sqrt_neg a h0 w
theorem ct_up {n r : Int} (hr : IsRoot r n) (h : r * r < n) : ct n = r + 1 := by
  have e := rt_eq hr
  unfold ct; rw [e, if_pos h]

set_option maxRecDepth 100000 in
set_option maxHeartbeats 2000000 in
theorem awake_any (w : World) : Calls Try.prog 7 #[] w fun e w' => e = .returned (.bool true) ∧ w = w' := by
  have C1 := Lib.hid (sqr1 (a := 131072) (r := 92681) ⟨by decide, by decide, by decide⟩ (by decide) (by decide))
  have C2 := Lib.hid (sqr0 (a := -1) (by decide))
  have C3 := Lib.hid (isq1 (n := 8) (r := 2) ⟨by decide, by decide, by decide⟩ (by decide))
  have C4 := Lib.hid (cei1 (n := 8) (c := 3) (by decide) (ct_up (r := 2) ⟨by decide, by decide, by decide⟩ (by decide)) (by decide))
  have C5 := Lib.hid (isq1 (n := 18446744073709551615) (r := 4294967295) ⟨by decide, by decide, by decide⟩ (by decide))
  have C6 := Lib.hid (cei1 (n := 18446744073709551615) (c := 4294967296) (by decide) (ct_up (r := 4294967295) ⟨by decide, by decide, by decide⟩ (by decide)) (by decide))
  go_enter Try.func7, Try.ntmps7
  go_wp2_with (first
    | ((with_reducible refine (C1.out _).mono ?_); rintro e w' ⟨rfl, rfl⟩)
    | ((with_reducible refine (C2.out _).mono ?_); rintro e w' ⟨rfl, rfl⟩)
    | ((with_reducible refine (C3.out _).mono ?_); rintro e w' ⟨rfl, rfl⟩)
    | ((with_reducible refine (C4.out _).mono ?_); rintro e w' ⟨rfl, rfl⟩)
    | ((with_reducible refine (C5.out _).mono ?_); rintro e w' ⟨rfl, rfl⟩)
    | ((with_reducible refine (C6.out _).mono ?_); rintro e w' ⟨rfl, rfl⟩))
  go_ret
  exact ⟨rfl, rfl⟩

set_option maxRecDepth 100000 in
set_option maxHeartbeats 2000000 in
theorem matches_walk (n a r c : Int) (A : Hid (∀ w, Calls Try.prog 7 #[] w fun e w' => e = .returned (.bool true) ∧ w = w'))
    (C1 : Hid (Isq1 n r)) (C2 : Hid (Rsq1 n r)) (C3 : Hid (Cei1 n c)) (C4 : Hid (Rei1 n c)) (x : Int) (hx0 : 0 ≤ x) (hx1 : x < 2147483648)
    (ha : (a < 0 ∧ -2147483648 ≤ a) ∨ (0 ≤ a ∧ a < 2147483648)) (D0 : a < 0 → Hid (Sqr1 a 0 1)) (D1 : 0 ≤ a → Hid (Sqr1 a x 0)) (D2 : 0 ≤ a → Hid (Rsq1 (a * 65536) x)) (w : World) :
    Calls Try.prog 3 #[.int .u64 n, .int .i32 a] w fun e w' => e = .returned (.bool true) ∧ w = w' := by
  rcases ha with ⟨h, h'⟩ | ⟨h, h'⟩
  · have C5 := D0 h
    clear D0 D1 D2
    go_enter Try.func3, Try.ntmps3
    go_wp2_with (first
      | ((with_reducible refine (A.out _).mono ?_); rintro e w' ⟨rfl, rfl⟩)
      | ((with_reducible refine (C1.out _).mono ?_); rintro e w' ⟨rfl, rfl⟩)
      | ((with_reducible refine (C2.out _).mono ?_); rintro e w' ⟨rfl, rfl⟩)
      | ((with_reducible refine (C3.out _).mono ?_); rintro e w' ⟨rfl, rfl⟩)
      | ((with_reducible refine (C4.out _).mono ?_); rintro e w' ⟨rfl, rfl⟩)
      | ((with_reducible refine (C5.out _).mono ?_); rintro e w' ⟨rfl, rfl⟩))
    go_ret
    exact ⟨rfl, rfl⟩
  · have C5 := D1 h
    have C6 := D2 h
    clear D0 D1 D2
    have f1 : IntKind.u64.wrap a = a := by rw [IntKind.wrap_u64]; omega
    have f2 : IntKind.u64.wrap x = x := by rw [IntKind.wrap_u64]; omega
    go_enter Try.func3, Try.ntmps3
    go_wp2_with (first
      | ((with_reducible refine (A.out _).mono ?_); rintro e w' ⟨rfl, rfl⟩)
      | ((with_reducible refine (C1.out _).mono ?_); rintro e w' ⟨rfl, rfl⟩)
      | ((with_reducible refine (C2.out _).mono ?_); rintro e w' ⟨rfl, rfl⟩)
      | ((with_reducible refine (C3.out _).mono ?_); rintro e w' ⟨rfl, rfl⟩)
      | ((with_reducible refine (C4.out _).mono ?_); rintro e w' ⟨rfl, rfl⟩)
      | ((with_reducible refine (C5.out _).mono ?_); rintro e w' ⟨rfl, rfl⟩)
      | ((with_reducible refine (C6.out _).mono ?_); rintro e w' ⟨rfl, rfl⟩))
    go_ret
    exact ⟨rfl, rfl⟩

theorem small_root {x a : Int} (hr : IsRoot x (a * 65536)) (h1 : a < 2147483648) : x < 16777216 := by
  by_cases c : x < 16777216
  · exact c
  · have := (hr.iff (t := 16777216) (by decide)).mpr (by omega)
    omega

theorem matches_all (n a : Int) (hn0 : 0 ≤ n) (hn1 : n < 18446744073709551616) (ha0 : -2147483648 ≤ a) (ha1 : a < 2147483648) (w : World) :
    Calls Try.prog 3 #[.int .u64 n, .int .i32 a] w fun e w' => e = .returned (.bool true) ∧ w = w' := by
  by_cases h : a < 0
  · exact matches_walk n a (rt n) (ct n) (Lib.hid awake_any) (Lib.hid (isq1 (rt_is hn0) hn1)) (Lib.hid (rsq1 (rt_is hn0) hn1)) (Lib.hid (cei1 hn0 rfl hn1)) (Lib.hid (rei1 hn0 rfl hn1)) 0 (by decide) (by decide)
      (.inl ⟨h, ha0⟩) (fun _ => Lib.hid (sqr0 h)) (fun g => absurd g (by omega)) (fun g => absurd g (by omega)) w
  · have R := rt_is (n := a * 65536) (by omega)
    exact matches_walk n a (rt n) (ct n) (Lib.hid awake_any) (Lib.hid (isq1 (rt_is hn0) hn1)) (Lib.hid (rsq1 (rt_is hn0) hn1)) (Lib.hid (cei1 hn0 rfl hn1)) (Lib.hid (rei1 hn0 rfl hn1)) (rt (a * 65536)) R.1 (by have := small_root R ha1; omega)
      (.inr ⟨by omega, ha1⟩) (fun g => absurd g h) (fun _ => Lib.hid (sqr1 R (by omega) ha1)) (fun _ => Lib.hid (rsq1 R (by omega))) w
end Go.Proofs.Ytackomnbdcboaaa
