/-
  Package wide: what MulShift and Mul return, for all arguments.
-/
import Derived.Test.YthiombcnbanadaaWideOps
import Derived.Deep.RegionHeld3
namespace Go.Proofs.Ythiombcnbanadaa
open Go.RowKit Go.Lib

theorem shift_out (a b n : Int) (hn : n < 0 ∨ 63 < n) (w : World) :
    Calls Try.prog 13 #[.int .i64 a, .int .i64 b, .int .i64 n] w fun e w' => e = .returned (.tuple #[.int .i64 0, .int .i64 1]) ∧ Grown w w' := by
  by_cases h : n < 0
  · clear hn
    go_enter Try.func13, Try.ntmps13
    go_wp2
    go_ret2
    exact ⟨rfl, Grown.refl _⟩
  · have h1 : 63 < n := by omega
    clear hn
    go_enter Try.func13, Try.ntmps13
    go_wp2
    go_ret2
    exact ⟨rfl, Grown.refl _⟩

theorem two_pow (k : Nat) (hk : k ≤ 63) : 0 < (2 : Int) ^ k ∧ (2 : Int) ^ k ≤ 9223372036854775808 := by
  have c : ((2 : Int) ^ k) = ((2 ^ k : Nat) : Int) := by rw [Int.natCast_pow]; rfl
  have h1 : 2 ^ k ≤ 2 ^ 63 := Nat.pow_le_pow_right (by omega) hk
  have h2 := Nat.two_pow_pos k
  rw [c]
  omega

set_option maxHeartbeats 1000000 in
theorem shift_in (a b n : Int) (ha : I64 a) (hb : I64 b) (hn : 0 ≤ n) (hn1 : n ≤ 63) (w : World) :
    Calls Try.prog 13 #[.int .i64 a, .int .i64 b, .int .i64 n] w fun e w' => e = .returned (.tuple #[.int .i64 (rv (a * b / 2 ^ n.toNat)), .int .i64 (re (a * b / 2 ^ n.toNat))]) ∧ Grown w w' := by
  have a0 := ha.mag0; have b0 := hb.mag0
  obtain ⟨D, hD⟩ : ∃ D : Int, D = 2 ^ n.toNat := ⟨_, rfl⟩
  have hp := two_pow n.toNat (by omega)
  rw [← hD] at hp ⊢
  have hw : IntKind.u64.wrap (2 ^ n.toNat) = D := by rw [← hD, IntKind.wrap_u64]; omega
  rw [← qs_shift a b D hp.1]
  clear hD
  have e0 : ¬ n < 0 := by omega
  have e1 : ¬ 63 < n := by omega
  go_enter Try.func13, Try.ntmps13
  go_wp2
  go_region_held3 (fun _ => True) (trivial)
    (first
      | (go_at_call_of 18 (Value.int IntKind.i64 a); refine (mag_any a ha _).mono ?_; rintro e w' ⟨rfl, rfl⟩)
      | (go_at_call_of 18 (Value.int IntKind.i64 b); refine (mag_any b hb _).mono ?_; rintro e w' ⟨rfl, rfl⟩)
      | (go_at_call 20; refine (quot_any (mag a) (mag b) D _ a0.1 a0.2 b0.1 b0.2 hp.1 hp.2 _).mono ?_; rintro e w1 ⟨rfl, hg⟩))
  go_wp2
  go_ret2
  exact ⟨rfl, hg⟩

theorem mulshift_any (a b n : Int) (ha : I64 a) (hb : I64 b) (w : World) :
    Calls Try.prog 13 #[.int .i64 a, .int .i64 b, .int .i64 n] w fun e w' => e = .returned (.tuple #[.int .i64 (msv a b n), .int .i64 (mse a b n)]) ∧ Grown w w' := by
  by_cases h : n < 0 ∨ 63 < n
  · have e1 : msv a b n = 0 := if_pos h
    have e2 : mse a b n = 1 := if_pos h
    rw [e1, e2]
    exact shift_out a b n h w
  · have e1 : msv a b n = rv (a * b / 2 ^ n.toNat) := if_neg h
    have e2 : mse a b n = re (a * b / 2 ^ n.toNat) := if_neg h
    rw [e1, e2]
    exact shift_in a b n ha hb (by omega) (by omega) w

/-- The closure, for whatever words. -/
theorem negw (n : Bool) (h l X Y : Int) (a : Addr) (w : World) (hc : w.cell? a = some (.bool n)) (h0 : 0 ≤ h) (h1 : h < 18446744073709551616) (l0 : 0 ≤ l) (l1 : l < 18446744073709551616)
    (hx : Hid (X = (if n then (-h - bor l) % 18446744073709551616 else h) ∧ Y = (if n then (-l) % 18446744073709551616 else l))) :
    Calls Try.prog 23 #[.int .u64 h, .int .u64 l, .pointer (some a)] w fun e w' => e = .returned (.tuple #[.int .u64 X, .int .u64 Y]) ∧ w = w' := by
  obtain ⟨rfl, rfl⟩ := hx.out
  cases n
  · exact neg_no h l a w hc
  · have := neg_yes h l a w hc h0 h1 l0 l1
    simpa using this

set_option maxHeartbeats 1000000 in
theorem mul_walk (a b H L X Y : Int) (n : Bool) (ha : I64 a) (hb : I64 b) (hn : (!decide (a < 0) == decide (b < 0)) = n) (h : Hid (H = mag a * mag b / 18446744073709551616 ∧ L = mag a * mag b % 18446744073709551616))
    (h0 : 0 ≤ H) (h1 : H < 18446744073709551616) (l0 : 0 ≤ L) (l1 : L < 18446744073709551616)
    (hx : Hid (X = (if n then (-H - bor L) % 18446744073709551616 else H) ∧ Y = (if n then (-L) % 18446744073709551616 else L))) (w : World) :
    Calls Try.prog 9 #[.int .i64 a, .int .i64 b] w fun e w' => e = .returned (.tuple #[.int .i64 (wrap64 X), .int .u64 Y]) ∧ Grown w w' := by
  have a0 := ha.mag0; have b0 := hb.mag0
  have a1 : mag a < 18446744073709551616 := by omega
  have b1 : mag b < 18446744073709551616 := by omega
  go_enter Try.func9, Try.ntmps9
  go_wp2_with (first
    | (go_at_call 16; refine (negs_any n _).mono ?_; rintro e w2 ⟨rfl, rfl⟩)
    | (go_at_call_of 18 (Value.int IntKind.i64 a); refine (mag_any a ha _).mono ?_; rintro e w' ⟨rfl, rfl⟩)
    | (go_at_call_of 18 (Value.int IntKind.i64 b); refine (mag_any b hb _).mono ?_; rintro e w' ⟨rfl, rfl⟩)
    | (go_at_call 17; refine (mul64i (mag a) (mag b) H L a0.1 a1 b0.1 b1 h _).mono ?_; rintro e w' ⟨rfl, rfl⟩)
    | (go_at_call 23; refine (negw n H L X Y _ _ (by simp [World.cell?_alloc_new]) h0 h1 l0 l1 hx).mono ?_; rintro e w' ⟨rfl, rfl⟩))
  go_ret2
  exact ⟨rfl, (Grown.refl _).alloc _ _⟩

/-- What Mul returns: the product's two words. -/
theorem mul_any (a b : Int) (ha : I64 a) (hb : I64 b) (w : World) :
    Calls Try.prog 9 #[.int .i64 a, .int .i64 b] w fun e w' => e = .returned (.tuple #[.int .i64 (a * b / 18446744073709551616), .int .u64 (a * b % 18446744073709551616)]) ∧ Grown w w' := by
  have hm := mag_mul a b
  have a0 := ha.mag0; have b0 := hb.mag0
  have p0 : 0 ≤ mag a * mag b := Int.mul_nonneg a0.1 b0.1
  have p1 : mag a * mag b ≤ 9223372036854775808 * 9223372036854775808 := Int.mul_le_mul a0.2 b0.2 b0.1 (by omega)
  obtain ⟨P, hP⟩ : ∃ P, P = mag a * mag b := ⟨_, rfl⟩
  obtain ⟨n, hn⟩ : ∃ n : Bool, n = (!decide (a < 0) == decide (b < 0)) := ⟨_, rfl⟩
  have hn2 : (decide (a < 0) != decide (b < 0)) = n := by rw [hn]; cases decide (a < 0) <;> cases decide (b < 0) <;> rfl
  rw [hn2, ← hP] at hm
  rw [← hP] at p0 p1
  have c := mul_walk a b (P / 18446744073709551616) (P % 18446744073709551616) _ _ n ha hb hn.symm (Lib.hid (by rw [← hP]; exact ⟨rfl, rfl⟩)) (by omega) (by omega) (by omega) (by omega) (Lib.hid ⟨rfl, rfl⟩) w
  refine c.mono ?_
  rintro e w' ⟨rfl, g⟩
  refine ⟨?_, g⟩
  cases n
  · have e : a * b = P := by simpa using hm.symm
    rw [e]
    have e1 : wrap64 (P / 18446744073709551616) = P / 18446744073709551616 := by unfold wrap64; omega
    simp [e1]
  · have e : a * b = -P := by have : P = -(a * b) := by simpa using hm
                              omega
    rw [e]
    have e1 : wrap64 ((-(P / 18446744073709551616) - bor (P % 18446744073709551616)) % 18446744073709551616) = -P / 18446744073709551616 := by unfold bor wrap64; split <;> omega
    have e2 : -(P % 18446744073709551616) % 18446744073709551616 = -P % 18446744073709551616 := by omega
    simp [e1, e2]
end Go.Proofs.Ythiombcnbanadaa
