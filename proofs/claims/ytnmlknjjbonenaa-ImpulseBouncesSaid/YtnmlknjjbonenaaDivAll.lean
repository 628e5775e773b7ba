/-
  math/bits.Div64 for all arguments with hi less than y: the quotient and the rest of the two words by the third one.
-/
import Derived.Test.YtnmlknjjbonenaaDiv
namespace Go.Proofs.Ytnmlknjjbonenaa
open Go.RowKit Go.Lib

theorem div64 (hi lo y : Nat) (hlo : lo < 18446744073709551616) (hy : y < 18446744073709551616) (hlt : hi < y) (w : World) :
    Calls Try.prog 35 #[.int .u64 (hi : Int), .int .u64 (lo : Int), .int .u64 (y : Int)] w fun e w' => e = .returned (.tuple #[.int .u64 (((hi * 18446744073709551616 + lo) / y : Nat) : Int), .int .u64 (((hi * 18446744073709551616 + lo) % y : Nat) : Int)]) ∧ Grown w w' := by
  by_cases h0 : hi = 0
  · subst h0
    have c := div64_0 lo y hlo hy (by omega) w
    rw [Nat.zero_mul, Nat.zero_add]
    exact c
  · obtain ⟨s, hs⟩ : ∃ s, s = 64 - Lib.bitLen y := ⟨_, rfl⟩
    have b1 := bitLen_lt y y (Nat.le_refl _) hy
    have b2 := bitLen_ge y y (Nat.le_refl _) hy (by omega)
    have b3 := Lib.bitLen_le y 64 (by omega) hy
    have b4 : Lib.bitLen y ≠ 0 := fun h => by rw [h] at b1; omega
    have e64 : 2 ^ Lib.bitLen y * 2 ^ s = 18446744073709551616 := by rw [← Nat.pow_add, hs, Nat.add_sub_cancel' b3]
    obtain ⟨Y, hY⟩ : ∃ Y, Y = y * 2 ^ s := ⟨_, rfl⟩
    have hp := Nat.two_pow_pos s
    have hY1 : Y < 18446744073709551616 := by rw [hY, ← e64]; exact Nat.mul_lt_mul_of_pos_right b1 hp
    have hY2 : 18446744073709551616 ≤ 2 * Y := by rw [hY, ← e64, ← Nat.mul_assoc]; exact Nat.mul_le_mul_right _ b2
    have hh : hi * 2 ^ s < Y := by rw [hY]; exact Nat.mul_lt_mul_of_pos_right hlt hp
    have hx : lo / 2 ^ (64 - s) < 2 ^ s := by
      rw [Nat.div_lt_iff_lt_mul (Nat.two_pow_pos _), ← Nat.pow_add, Nat.add_sub_cancel' (by omega)]
      exact hlo
    obtain ⟨u, hu⟩ : ∃ u, u = hi * 2 ^ s + lo / 2 ^ (64 - s) := ⟨_, rfl⟩
    have huY : u < Y := by rw [hu, hY]; exact DivA.below hi lo y s (by omega) hlo hlt
    obtain ⟨l, hl⟩ : ∃ l, l = lo * 2 ^ s % 18446744073709551616 := ⟨_, rfl⟩
    have hl64 : l < 18446744073709551616 := by rw [hl]; exact Nat.mod_lt _ (by decide)
    obtain ⟨a, ha⟩ : ∃ a, a = Y / 4294967296 := ⟨_, rfl⟩
    obtain ⟨b, hb⟩ : ∃ b, b = Y % 4294967296 := ⟨_, rfl⟩
    obtain ⟨l1, hl1⟩ : ∃ l1, l1 = l / 4294967296 := ⟨_, rfl⟩
    obtain ⟨l0, hl0⟩ : ∃ l0, l0 = l % 4294967296 := ⟨_, rfl⟩
    have hab : a * 4294967296 + b = Y := by rw [ha, hb]; exact Nat.div_add_mod' Y 4294967296
    have hll : l1 * 4294967296 + l0 = l := by rw [hl1, hl0]; exact Nat.div_add_mod' l 4294967296
    have ha0 : 2147483648 ≤ a := by omega
    have ha1 : a < 4294967296 := by omega
    have hb1 : b < 4294967296 := by omega
    have hl11 : l1 < 4294967296 := by omega
    have hl01 : l0 < 4294967296 := by omega
    obtain ⟨Q1, hQ1⟩ : ∃ Q1, Q1 = (u * 4294967296 + l1) / Y := ⟨_, rfl⟩
    obtain ⟨U, hU⟩ : ∃ U, U = (u * 4294967296 + l1) % Y := ⟨_, rfl⟩
    have hUY : U < Y := by rw [hU]; exact Nat.mod_lt _ (by omega)
    obtain ⟨Q0, hQ0⟩ : ∃ Q0, Q0 = (U * 4294967296 + l0) / Y := ⟨_, rfl⟩
    obtain ⟨R, hR⟩ : ∃ R, R = (U * 4294967296 + l0) % Y := ⟨_, rfl⟩
    have hRY : R < Y := by rw [hR]; exact Nat.mod_lt _ (by omega)
    have hQ1d : Q1 < 4294967296 := by rw [hQ1, ← hab]; exact DivA.digit u l1 a b (by omega) hl11
    have hQ0d : Q0 < 4294967296 := by rw [hQ0, ← hab]; exact DivA.digit U l0 a b (by omega) hl01
    have hdm1 : u * 4294967296 + l1 = Y * Q1 + U := by rw [hQ1, hU]; exact (Nat.div_add_mod _ _).symm
    have hdm0 : U * 4294967296 + l0 = Y * Q0 + R := by rw [hQ0, hR]; exact (Nat.div_add_mod _ _).symm
    have fin := DivA.whole hi lo y s u l1 l0 Y Q1 Q0 R (by omega) (by omega) hu (by rw [hll, hl]) hY hQ1 (by rw [← hU]; exact hQ0) (by rw [← hU]; exact hR)
    have c2 : ((2 : Int) ^ s) = ((2 ^ s : Nat) : Int) := by rw [Int.natCast_pow]; rfl
    have c3 : ((2 : Int) ^ (64 - s)) = ((2 ^ (64 - s) : Nat) : Int) := by rw [Int.natCast_pow]; rfl
    have hlow : ∀ x : Nat, x / a * a ≤ x := fun x => Nat.div_mul_le_self x a
    have hqle : ∀ x : Nat, x / a ≤ x := fun x => Nat.div_le_self x a
    have c := div64_1 hi lo y s Y l (hi * 2 ^ s) a b l1 l0 u (u / a) (u / a * a) (u % a) Q1 (u * 4294967296 % 18446744073709551616) ((u * 4294967296 % 18446744073709551616 + l1) % 18446744073709551616) (Q1 * Y % 18446744073709551616) U (U / a) (U / a * a) (U % a) Q0 (U * 4294967296 % 18446744073709551616) ((U * 4294967296 % 18446744073709551616 + l0) % 18446744073709551616) (Q0 * Y % 18446744073709551616) (Q1 * 4294967296) (Q1 * 4294967296 + Q0) R
      hy (by omega) hlt (Lib.hid hs) (by omega)
      (by rw [c2, ← Int.natCast_mul, ← hY]; exact wrap_le Y hY1) (by rw [c2, ← Int.natCast_mul, hl]; exact wrap_mod _) (by rw [c2, ← Int.natCast_mul]; exact wrap_le _ (by omega))
      (by omega) (by rw [hb]; exact Mul64.maskN Y hY1) (by omega) (by rw [hl0]; exact Mul64.maskN l hl64)
      (by rw [IntKind.wrap_u64]; omega) (by rw [c3, ← Int.natCast_ediv, hu]; exact or_add hi _ s hx (by omega) (by omega))
      (Int.natCast_ediv u a).symm (wrap_le _ (by have := hqle u; omega)) (wrap_le _ (by have := hqle U; omega)) (by rw [← Int.natCast_mul]; exact wrap_le _ (by have := hlow u; omega)) (sub_mod u a (by omega))
      (by exact wrap_mod (u * 4294967296)) (by rw [← Int.natCast_add]; exact wrap_mod _) (by rw [← Int.natCast_mul]; exact wrap_mod _) (left_behind u l1 Q1 Y U (by omega) hdm1)
      (Int.natCast_ediv U a).symm (by rw [← Int.natCast_mul]; exact wrap_le _ (by have := hlow U; omega)) (sub_mod U a (by omega))
      (by exact wrap_mod (U * 4294967296)) (by rw [← Int.natCast_add]; exact wrap_mod _) (by rw [← Int.natCast_mul]; exact wrap_mod _) (left_behind U l0 Q0 Y R (by omega) hdm0)
      (by exact wrap_le (Q1 * 4294967296) (by omega)) (by rw [← Int.natCast_add]; exact wrap_le _ (by omega))
      (by rw [hQ1, ← hab]; exact dig_start u l1 a b (by omega) (by omega) hl11) (by rw [hQ0, ← hab]; exact dig_start U l0 a b (by omega) (by omega) hl01)
      (Lib.hid (by rw [hab]; exact hQ1)) (Lib.hid (by rw [hab]; exact hQ0)) (Lib.hid (by omega)) (Lib.hid (by omega)) ha1 hb1 hl11 hl01 ha0 w
    refine c.mono ?_
    rintro e w' ⟨rfl, rfl⟩
    refine ⟨?_, Grown.refl _⟩
    rw [fin.1, c2, ← Int.natCast_ediv, fin.2]
end Go.Proofs.Ytnmlknjjbonenaa
