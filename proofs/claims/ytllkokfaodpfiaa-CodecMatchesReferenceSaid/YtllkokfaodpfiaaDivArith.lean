/-
  Plain arithmetic of a division of two words by one, digit by digit (each digit has 32 bits): no program in sight.
-/

namespace Go.Proofs.Ytllkokfaodpfiaa.DivA

theorem lin1 (u d P R r : Nat) (hq : P + r = u) (h : u * 4294967296 + d < P * 4294967296 + R) : r * 4294967296 + d < R := by
  simp only [Nat.mul_comm _ 4294967296] at *
  omega

/-- A digit's head: the guess is too great exactly if the test of the loop says so. -/
theorem head (u d a b q r : Nat) (hu : u < a * 4294967296 + b) (hd : d < 4294967296) (hq : q * a + r = u) :
    (u * 4294967296 + d) / (a * 4294967296 + b) < q ↔ (4294967296 ≤ q ∨ r * 4294967296 + d < q * b) := by
  have hy : 0 < a * 4294967296 + b := by omega
  rw [Nat.div_lt_iff_lt_mul hy, Nat.mul_add, ← Nat.mul_assoc]
  obtain ⟨P, hP⟩ : ∃ P, q * a = P := ⟨_, rfl⟩
  obtain ⟨R, hR⟩ : ∃ R, q * b = R := ⟨_, rfl⟩
  rw [hP] at hq
  rw [hP, hR]
  constructor
  · intro h; right; exact lin1 _ _ _ _ _ hq h
  · rintro (h | h)
    · have h1 : 4294967296 * a ≤ P := by rw [← hP]; exact Nat.mul_le_mul_right a h
      have h2 : 4294967296 * b ≤ R := by rw [← hR]; exact Nat.mul_le_mul_right b h
      simp only [Nat.mul_comm _ 4294967296] at *
      omega
    · simp only [Nat.mul_comm _ 4294967296] at *
      omega

/-- Behind a step: where the rest has left the digit's range, the guess is no longer too great. -/
theorem out (u d a b q r : Nat) (hb : b < 4294967296) (hu : u < a * 4294967296 + b) (hq : q * a + r = u) (hr : 4294967296 ≤ r) :
    ¬ (u * 4294967296 + d) / (a * 4294967296 + b) < q := by
  have hy : 0 < a * 4294967296 + b := by omega
  rw [Nat.div_lt_iff_lt_mul hy, Nat.mul_add, ← Nat.mul_assoc]
  have hq' : q < 4294967296 := by
    apply Nat.lt_of_not_le
    intro h
    have h1 : 4294967296 * a ≤ q * a := Nat.mul_le_mul_right a h
    omega
  have h2 : q * b ≤ 4294967295 * b := Nat.mul_le_mul_right b (by omega)
  omega

/-- The first guess is not too small. -/
theorem guess (u d a b : Nat) (ha : 0 < a) (hd : d < 4294967296) : (u * 4294967296 + d) / (a * 4294967296 + b) ≤ u / a := by
  rw [← Nat.lt_succ_iff, Nat.div_lt_iff_lt_mul (by omega)]
  have h := Nat.lt_mul_div_succ u ha
  have e : (u / a).succ * (a * 4294967296 + b) = a * (u / a + 1) * 4294967296 + (u / a).succ * b := by
    rw [Nat.mul_add, ← Nat.mul_assoc, Nat.mul_comm a]
  rw [e]
  omega

/-- Two digits after each other are the quotient and the rest of both. -/
theorem two (M K l Y : Nat) (hY : 0 < Y) : M / Y * K + (M % Y * K + l) / Y = (M * K + l) / Y ∧ (M % Y * K + l) % Y = (M * K + l) % Y := by
  have e : M * K + l = (M % Y * K + l) + Y * (M / Y * K) := by
    rw [← Nat.mul_assoc]
    conv => lhs; rw [← Nat.div_add_mod M Y]
    rw [Nat.add_mul, Nat.mul_assoc]; omega
  rw [e, Nat.add_mul_div_left _ _ hY, Nat.add_mul_mod_self_left]
  exact ⟨Nat.add_comm _ _, rfl⟩

/-- The dividend, moved up by the divisor's leading zeros. -/
theorem moved (hi lo s : Nat) (hs : s ≤ 64) :
    (hi * 2 ^ s + lo / 2 ^ (64 - s)) * 18446744073709551616 + lo * 2 ^ s % 18446744073709551616 = (hi * 18446744073709551616 + lo) * 2 ^ s := by
  have e : (18446744073709551616 : Nat) = 2 ^ (64 - s) * 2 ^ s := by rw [← Nat.pow_add, Nat.sub_add_cancel hs]
  have e1 : lo * 2 ^ s / 18446744073709551616 = lo / 2 ^ (64 - s) := by
    conv => lhs; rw [e]
    exact Nat.mul_div_mul_right _ _ (Nat.two_pow_pos s)
  have e2 := Nat.div_add_mod (lo * 2 ^ s) 18446744073709551616
  rw [e1] at e2
  rw [Nat.add_mul (hi * 18446744073709551616) lo, Nat.mul_right_comm hi]
  omega

theorem below (hi lo y s : Nat) (hs : s ≤ 64) (hlo : lo < 18446744073709551616) (hy : hi < y) : hi * 2 ^ s + lo / 2 ^ (64 - s) < y * 2 ^ s := by
  have m := moved hi lo s hs
  have h1 : (hi * 18446744073709551616 + lo) * 2 ^ s < (y * 18446744073709551616) * 2 ^ s := Nat.mul_lt_mul_of_pos_right (by omega) (Nat.two_pow_pos s)
  rw [Nat.mul_right_comm] at h1
  omega

/-- What the two digits give is the quotient and the rest of the whole. -/
theorem whole (hi lo y s u l1 l0 Y q1 q0 r : Nat) (hs : s ≤ 64) (hy : 0 < y)
    (hu : u = hi * 2 ^ s + lo / 2 ^ (64 - s)) (hl : l1 * 4294967296 + l0 = lo * 2 ^ s % 18446744073709551616) (hY : Y = y * 2 ^ s)
    (h1 : q1 = (u * 4294967296 + l1) / Y) (h0 : q0 = ((u * 4294967296 + l1) % Y * 4294967296 + l0) / Y) (hr : r = ((u * 4294967296 + l1) % Y * 4294967296 + l0) % Y) :
    q1 * 4294967296 + q0 = (hi * 18446744073709551616 + lo) / y ∧ r / 2 ^ s = (hi * 18446744073709551616 + lo) % y := by
  have hY0 : 0 < Y := by rw [hY]; exact Nat.mul_pos hy (Nat.two_pow_pos s)
  have t := two (u * 4294967296 + l1) 4294967296 l0 Y hY0
  have m := moved hi lo s hs
  have e : (u * 4294967296 + l1) * 4294967296 + l0 = (hi * 18446744073709551616 + lo) * 2 ^ s := by
    rw [← m, ← hu, ← hl]
    simp only [Nat.mul_comm _ 4294967296, Nat.mul_comm _ 18446744073709551616] at *
    omega
  rw [← h1, ← h0, ← hr, e, hY, Nat.mul_div_mul_right _ _ (Nat.two_pow_pos s), Nat.mul_mod_mul_right] at t
  refine ⟨t.1, ?_⟩
  rw [t.2]
  exact Nat.mul_div_cancel _ (Nat.two_pow_pos s)

end Go.Proofs.Ytllkokfaodpfiaa.DivA
