/-
  Package wide: what MulShift and Mul return, for all arguments.
-/
import Derived.Test.YtnmlknjjbonenaaMulDiv
import Derived.Deep.RegionHeld3
namespace Go.Proofs.Ytnmlknjjbonenaa
open Go.RowKit Go.Lib

theorem shift_out (a b n : Int) (hn : n < 0 ∨ 63 < n) (w : World) :
    Calls Try.prog 23 #[.int .i64 a, .int .i64 b, .int .i64 n] w fun e w' => e = .returned (.tuple #[.int .i64 0, .int .i64 1]) ∧ Grown w w' := by
  by_cases h : n < 0
  · clear hn
    go_enter Try.func23, Try.ntmps23
    go_wp2
    go_ret2
    exact ⟨rfl, Grown.refl _⟩
  · have h1 : 63 < n := by omega
    clear hn
    go_enter Try.func23, Try.ntmps23
    go_wp2
    go_ret2
    exact ⟨rfl, Grown.refl _⟩

theorem two_pow (k : Nat) (hk : k ≤ 63) : 0 < (2 : Int) ^ k ∧ (2 : Int) ^ k ≤ 9223372036854775808 := by
  have c : ((2 : Int) ^ k) = ((2 ^ k : Nat) : Int) := by rw [Int.natCast_pow]; rfl
  have h1 : 2 ^ k ≤ 2 ^ 63 := Nat.pow_le_pow_right (by omega) hk
  have h2 := Nat.two_pow_pos k
  rw [c]
  omega

set_option maxHeartbeats 1000000 in
theorem shift_in (a b n : Int) (ha : I64 a) (hb : I64 b) (hn : 0 ≤ n) (hn1 : n ≤ 63) (w : World) :
    Calls Try.prog 23 #[.int .i64 a, .int .i64 b, .int .i64 n] w fun e w' => e = .returned (.tuple #[.int .i64 (rv (a * b / 2 ^ n.toNat)), .int .i64 (re (a * b / 2 ^ n.toNat))]) ∧ Grown w w' := by
  have a0 := ha.mag0; have b0 := hb.mag0
  obtain ⟨D, hD⟩ : ∃ D : Int, D = 2 ^ n.toNat := ⟨_, rfl⟩
  have hp := two_pow n.toNat (by omega)
  rw [← hD] at hp ⊢
  have hw : IntKind.u64.wrap (2 ^ n.toNat) = D := by rw [← hD, IntKind.wrap_u64]; omega
  rw [← qs_shift a b D hp.1]
  clear hD
  have e0 : ¬ n < 0 := by omega
  have e1 : ¬ 63 < n := by omega
  go_enter Try.func23, Try.ntmps23
  go_wp2
  go_region_held3 (fun _ => True) (trivial)
    (first
      | (go_at_call_of 29 (Value.int IntKind.i64 a); refine (mag_any a ha _).mono ?_; rintro e w' ⟨rfl, rfl⟩)
      | (go_at_call_of 29 (Value.int IntKind.i64 b); refine (mag_any b hb _).mono ?_; rintro e w' ⟨rfl, rfl⟩)
      | (go_at_call 28; refine (quot_any (mag a) (mag b) D _ a0.1 a0.2 b0.1 b0.2 hp.1 hp.2 _).mono ?_; rintro e w1 ⟨rfl, hg⟩))
  go_wp2
  go_ret2
  exact ⟨rfl, hg⟩

theorem mulshift_any (a b n : Int) (ha : I64 a) (hb : I64 b) (w : World) :
    Calls Try.prog 23 #[.int .i64 a, .int .i64 b, .int .i64 n] w fun e w' => e = .returned (.tuple #[.int .i64 (msv a b n), .int .i64 (mse a b n)]) ∧ Grown w w' := by
  by_cases h : n < 0 ∨ 63 < n
  · have e1 : msv a b n = 0 := if_pos h
    have e2 : mse a b n = 1 := if_pos h
    rw [e1, e2]
    exact shift_out a b n h w
  · have e1 : msv a b n = rv (a * b / 2 ^ n.toNat) := if_neg h
    have e2 : mse a b n = re (a * b / 2 ^ n.toNat) := if_neg h
    rw [e1, e2]
    exact shift_in a b n ha hb (by omega) (by omega) w

end Go.Proofs.Ytnmlknjjbonenaa
