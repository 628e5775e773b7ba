/-
  Plain arithmetic of a division of two words by one, digit by digit (each digit has 32 bits): no program in sight.
-/

namespace Go.Proofs.YtnbncdgadahhbaaDoor.DivA

/-- Behind a step: where the rest has left the digit's range, the guess is no longer too great. -/
theorem out (u d a b q r : Nat) (hb : b < 4294967296) (hu : u < a * 4294967296 + b) (hq : q * a + r = u) (hr : 4294967296 ≤ r) :
    ¬ (u * 4294967296 + d) / (a * 4294967296 + b) < q := by
  have hy : 0 < a * 4294967296 + b := by omega
  rw [Nat.div_lt_iff_lt_mul hy, Nat.mul_add, ← Nat.mul_assoc]
  have hq' : q < 4294967296 := by
    apply Nat.lt_of_not_le
    intro h
    have h1 : 4294967296 * a ≤ q * a := Nat.mul_le_mul_right a h
    omega
  have h2 : q * b ≤ 4294967295 * b := Nat.mul_le_mul_right b (by omega)
  omega

/-- The first guess is not too small. -/
theorem guess (u d a b : Nat) (ha : 0 < a) (hd : d < 4294967296) : (u * 4294967296 + d) / (a * 4294967296 + b) ≤ u / a := by
  rw [← Nat.lt_succ_iff, Nat.div_lt_iff_lt_mul (by omega)]
  have h := Nat.lt_mul_div_succ u ha
  have e : (u / a).succ * (a * 4294967296 + b) = a * (u / a + 1) * 4294967296 + (u / a).succ * b := by
    rw [Nat.mul_add, ← Nat.mul_assoc, Nat.mul_comm a]
  rw [e]
  omega

/-- Two digits after each other are the quotient and the rest of both. -/
theorem two (M K l Y : Nat) (hY : 0 < Y) : M / Y * K + (M % Y * K + l) / Y = (M * K + l) / Y ∧ (M % Y * K + l) % Y = (M * K + l) % Y := by
  have e : M * K + l = (M % Y * K + l) + Y * (M / Y * K) := by
    rw [← Nat.mul_assoc]
    conv => lhs; rw [← Nat.div_add_mod M Y]
    rw [Nat.add_mul, Nat.mul_assoc]; omega
  rw [e, Nat.add_mul_div_left _ _ hY, Nat.add_mul_mod_self_left]
  exact ⟨Nat.add_comm _ _, rfl⟩

end Go.Proofs.YtnbncdgadahhbaaDoor.DivA
