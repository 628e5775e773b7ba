import Derived.Test.YtnmnbogjnjbopaaDoorProg
import Derived.WalkKit
import Derived.Lib.Mul64
import Derived.Laws.Bits64b
import Derived.Laws.Externs
import Derived.Lib.Strings
import Derived.Lib.Slices
import Derived.Lib.Small
import Derived.Lib.Walk
import Derived.Lib.BitFns
import Derived.Deep.QuietTactic
import Derived.BigQuiet
import Derived.RowKit3
import Derived.Lib.Hide
import Derived.Deep.DeepCutAuto
import Derived.Deep.CutRange
import Derived.Deep.CutBlock
import Derived.Deep.RegionWith
import Derived.OpenShut

/-! FxAll: DivArith, Wide, Fx, FxRef. -/

section
/-
  Plain arithmetic of a division of two words by one, digit by digit (each digit has 32 bits): no program in sight.
-/

namespace Go.Proofs.YtnmnbogjnjbopaaDoor.DivA

theorem lin1 (u d P R r : Nat) (hq : P + r = u) (h : u * 4294967296 + d < P * 4294967296 + R) : r * 4294967296 + d < R := by
  simp only [Nat.mul_comm _ 4294967296] at *
  omega

/-- A digit's head: the guess is too great exactly if the test of the loop says so. -/
theorem head (u d a b q r : Nat) (hu : u < a * 4294967296 + b) (hd : d < 4294967296) (hq : q * a + r = u) :
    (u * 4294967296 + d) / (a * 4294967296 + b) < q ↔ (4294967296 ≤ q ∨ r * 4294967296 + d < q * b) := by
  have hy : 0 < a * 4294967296 + b := by omega
  rw [Nat.div_lt_iff_lt_mul hy, Nat.mul_add, ← Nat.mul_assoc]
  obtain ⟨P, hP⟩ : ∃ P, q * a = P := ⟨_, rfl⟩
  obtain ⟨R, hR⟩ : ∃ R, q * b = R := ⟨_, rfl⟩
  rw [hP] at hq
  rw [hP, hR]
  constructor
  · intro h; right; exact lin1 _ _ _ _ _ hq h
  · rintro (h | h)
    · have h1 : 4294967296 * a ≤ P := by rw [← hP]; exact Nat.mul_le_mul_right a h
      have h2 : 4294967296 * b ≤ R := by rw [← hR]; exact Nat.mul_le_mul_right b h
      simp only [Nat.mul_comm _ 4294967296] at *
      omega
    · simp only [Nat.mul_comm _ 4294967296] at *
      omega

/-- Behind a step: where the rest has left the digit's range, the guess is no longer too great. -/
theorem out (u d a b q r : Nat) (hb : b < 4294967296) (hu : u < a * 4294967296 + b) (hq : q * a + r = u) (hr : 4294967296 ≤ r) :
    ¬ (u * 4294967296 + d) / (a * 4294967296 + b) < q := by
  have hy : 0 < a * 4294967296 + b := by omega
  rw [Nat.div_lt_iff_lt_mul hy, Nat.mul_add, ← Nat.mul_assoc]
  have hq' : q < 4294967296 := by
    apply Nat.lt_of_not_le
    intro h
    have h1 : 4294967296 * a ≤ q * a := Nat.mul_le_mul_right a h
    omega
  have h2 : q * b ≤ 4294967295 * b := Nat.mul_le_mul_right b (by omega)
  omega

/-- The first guess is not too small. -/
theorem guess (u d a b : Nat) (ha : 0 < a) (hd : d < 4294967296) : (u * 4294967296 + d) / (a * 4294967296 + b) ≤ u / a := by
  rw [← Nat.lt_succ_iff, Nat.div_lt_iff_lt_mul (by omega)]
  have h := Nat.lt_mul_div_succ u ha
  have e : (u / a).succ * (a * 4294967296 + b) = a * (u / a + 1) * 4294967296 + (u / a).succ * b := by
    rw [Nat.mul_add, ← Nat.mul_assoc, Nat.mul_comm a]
  rw [e]
  omega

/-- Two digits after each other are the quotient and the rest of both. -/
theorem two (M K l Y : Nat) (hY : 0 < Y) : M / Y * K + (M % Y * K + l) / Y = (M * K + l) / Y ∧ (M % Y * K + l) % Y = (M * K + l) % Y := by
  have e : M * K + l = (M % Y * K + l) + Y * (M / Y * K) := by
    rw [← Nat.mul_assoc]
    conv => lhs; rw [← Nat.div_add_mod M Y]
    rw [Nat.add_mul, Nat.mul_assoc]; omega
  rw [e, Nat.add_mul_div_left _ _ hY, Nat.add_mul_mod_self_left]
  exact ⟨Nat.add_comm _ _, rfl⟩

/-- The dividend, moved up by the divisor's leading zeros. -/
theorem moved (hi lo s : Nat) (hs : s ≤ 64) :
    (hi * 2 ^ s + lo / 2 ^ (64 - s)) * 18446744073709551616 + lo * 2 ^ s % 18446744073709551616 = (hi * 18446744073709551616 + lo) * 2 ^ s := by
  have e : (18446744073709551616 : Nat) = 2 ^ (64 - s) * 2 ^ s := by rw [← Nat.pow_add, Nat.sub_add_cancel hs]
  have e1 : lo * 2 ^ s / 18446744073709551616 = lo / 2 ^ (64 - s) := by
    conv => lhs; rw [e]
    exact Nat.mul_div_mul_right _ _ (Nat.two_pow_pos s)
  have e2 := Nat.div_add_mod (lo * 2 ^ s) 18446744073709551616
  rw [e1] at e2
  rw [Nat.add_mul (hi * 18446744073709551616) lo, Nat.mul_right_comm hi]
  omega

theorem below (hi lo y s : Nat) (hs : s ≤ 64) (hlo : lo < 18446744073709551616) (hy : hi < y) : hi * 2 ^ s + lo / 2 ^ (64 - s) < y * 2 ^ s := by
  have m := moved hi lo s hs
  have h1 : (hi * 18446744073709551616 + lo) * 2 ^ s < (y * 18446744073709551616) * 2 ^ s := Nat.mul_lt_mul_of_pos_right (by omega) (Nat.two_pow_pos s)
  rw [Nat.mul_right_comm] at h1
  omega

/-- What the two digits give is the quotient and the rest of the whole. -/
theorem whole (hi lo y s u l1 l0 Y q1 q0 r : Nat) (hs : s ≤ 64) (hy : 0 < y)
    (hu : u = hi * 2 ^ s + lo / 2 ^ (64 - s)) (hl : l1 * 4294967296 + l0 = lo * 2 ^ s % 18446744073709551616) (hY : Y = y * 2 ^ s)
    (h1 : q1 = (u * 4294967296 + l1) / Y) (h0 : q0 = ((u * 4294967296 + l1) % Y * 4294967296 + l0) / Y) (hr : r = ((u * 4294967296 + l1) % Y * 4294967296 + l0) % Y) :
    q1 * 4294967296 + q0 = (hi * 18446744073709551616 + lo) / y ∧ r / 2 ^ s = (hi * 18446744073709551616 + lo) % y := by
  have hY0 : 0 < Y := by rw [hY]; exact Nat.mul_pos hy (Nat.two_pow_pos s)
  have t := two (u * 4294967296 + l1) 4294967296 l0 Y hY0
  have m := moved hi lo s hs
  have e : (u * 4294967296 + l1) * 4294967296 + l0 = (hi * 18446744073709551616 + lo) * 2 ^ s := by
    rw [← m, ← hu, ← hl]
    simp only [Nat.mul_comm _ 4294967296, Nat.mul_comm _ 18446744073709551616] at *
    omega
  rw [← h1, ← h0, ← hr, e, hY, Nat.mul_div_mul_right _ _ (Nat.two_pow_pos s), Nat.mul_mod_mul_right] at t
  refine ⟨t.1, ?_⟩
  rw [t.2]
  exact Nat.mul_div_cancel _ (Nat.two_pow_pos s)

end Go.Proofs.YtnmnbogjnjbopaaDoor.DivA
end

section
/-
  Package wide: magnitude, the negation of two words, and the quotient of magnitudes, by contracts on whole numbers.
-/
namespace Go.Proofs.YtnmnbogjnjbopaaDoor
open Go.RowKit Go.Lib

/-- A number of 64 bits with a sign. -/
def I64 (v : Int) : Prop := -9223372036854775808 ≤ v ∧ v < 9223372036854775808
instance (v : Int) : Decidable (I64 v) := inferInstanceAs (Decidable (_ ∧ _))
/-- The value that is returned for v: v where it is in range, 0 otherwise; and its error. -/
def rv (v : Int) : Int := if I64 v then v else 0
def qs (P c : Int) (neg : Bool) : Int := if neg then -((P + c - 1) / c) else P / c

end Go.Proofs.YtnmnbogjnjbopaaDoor
end

section
/-
  Package fx: what each function returns, for all arguments, by contracts on whole numbers.
-/
namespace Go.Proofs.YtnmnbogjnjbopaaDoor
open Go.RowKit Go.Lib

/-- A number of 32 bits with a sign. -/
def I32 (v : Int) : Prop := -2147483648 ≤ v ∧ v < 2147483648
/-- The nearest number from -l to l. -/
def lim (n l : Int) : Int := max (-l) (min n l)

theorem I32.i64 {n : Int} (h : I32 n) : I64 n := by obtain ⟨h1, h2⟩ := h; exact ⟨by omega, by omega⟩

end Go.Proofs.YtnmnbogjnjbopaaDoor
end

section
/-
  The reference implementation of package fx: each function returns the same number as the program's.
-/
namespace Go.Proofs.YtnmnbogjnjbopaaDoor
open Go.RowKit Go.Lib

/-- The reference's floor, for a positive divisor. -/
theorem reffl_any (a b : Int) (ha : I64 a) (hb0 : 0 < b) (hb : b < 9223372036854775808) (w : World) :
    Calls Tryd.prog 81 #[.int .i64 a, .int .i64 b] w fun e w' => e = .returned (.int .i64 (a / b)) ∧ w = w' := by
  obtain ⟨h1, h2⟩ := ha
  have hbz : (b == 0) = false := by simp; omega
  have hd := Int.mul_tdiv_add_tmod a b
  have hl := Int.tmod_lt_of_pos a hb0
  have hg : -b < a.tmod b := Int.lt_tmod_of_pos a hb0
  have hn0 : 0 ≤ a → 0 ≤ a.tmod b := fun h => Int.tmod_nonneg b h
  have hn1 : a ≤ 0 → a.tmod b ≤ 0 := fun h => by
    have := Int.tmod_nonneg b (show 0 ≤ -a by omega)
    rw [Int.neg_tmod] at this; omega
  have hq0 : 0 ≤ a → 0 ≤ a.tdiv b := fun h => Int.tdiv_nonneg h (by omega)
  have hq1 : a ≤ 0 → a.tdiv b ≤ 0 := fun h => by
    have := Int.tdiv_nonneg (show 0 ≤ -a by omega) (show 0 ≤ b by omega)
    rw [Int.neg_tdiv] at this; omega
  obtain ⟨q, hq⟩ : ∃ q, q = a.tdiv b := ⟨_, rfl⟩
  obtain ⟨r, hr⟩ : ∃ r, r = a.tmod b := ⟨_, rfl⟩
  rw [← hq, ← hr] at hd
  rw [← hr] at hl hg hn0 hn1
  rw [← hq] at hq0 hq1
  have hbq : ∀ x : Int, 0 ≤ x → x ≤ b * x := fun x hx => by
    have := Int.mul_le_mul_of_nonneg_right (show 1 ≤ b by omega) hx
    omega
  have q0 : -9223372036854775808 ≤ q ∧ q < 9223372036854775808 := by
    by_cases c : 0 ≤ a
    · have := hq0 c; have := hbq q this; have := hn0 c; omega
    · have h := hq1 (by omega); have := hbq (-q) (by omega); rw [Int.mul_neg] at this; have := hn1 (by omega); omega
  have W1 : IntKind.i64.wrap (a.tdiv b) = q := by rw [← hq, IntKind.wrap_i64]; omega
  have W2 : IntKind.i64.wrap (a.tmod b) = r := by rw [← hr, IntKind.wrap_i64]; omega
  have W3 : wrap64 (a.tdiv b) = q := by rw [← hq]; unfold wrap64; omega
  have W4 : wrap64 (a.tmod b) = r := by rw [← hr]; unfold wrap64; omega
  have hq' := hq.symm; have hr' := hr.symm
  clear hq hr hbq hn0 hn1 hq0 hq1
  by_cases c : r < 0
  · have e : a / b = q - 1 := by
      rw [Int.ediv_eq_iff_of_pos hb0, Int.sub_mul, Int.mul_comm q b]; omega
    have q2 : -9223372036854775808 ≤ q - 1 := by
      by_cases c2 : b = 1
      · subst c2; omega
      · have hbq2 : ∀ x : Int, 0 ≤ x → 2 * x ≤ b * x := fun x hx => Int.mul_le_mul_of_nonneg_right (show 2 ≤ b by omega) hx
        by_cases c3 : 0 ≤ q
        · omega
        · have := hbq2 (-q) (by omega); rw [Int.mul_neg b q] at this; omega
    rw [e]
    clear e hd
    go_enter Tryd.func81, Tryd.ntmps81
    go_wp2
    go_ret
    exact ⟨rfl, rfl⟩
  · have e : a / b = q := by
      rw [Int.ediv_eq_iff_of_pos hb0, Int.mul_comm q b]; omega
    rw [e]
    clear e hd
    go_enter Tryd.func81, Tryd.ntmps81
    go_wp2
    go_ret
    exact ⟨rfl, rfl⟩

end Go.Proofs.YtnmnbogjnjbopaaDoor
end
