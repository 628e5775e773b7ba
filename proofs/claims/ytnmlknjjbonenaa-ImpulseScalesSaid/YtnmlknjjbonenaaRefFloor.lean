/-
  The reference implementation of package wide: floor, MulDiv and MulShift return what the program's functions return.
-/
import Derived.Test.YtnmlknjjbonenaaRefDivide
namespace Go.Proofs.Ytnmlknjjbonenaa
open Go.RowKit Go.Lib

/-- What floor is asked for. -/
def flv (Q r : Int) (n : Bool) : Int := if n then -(Q + if 0 < r then 1 else 0) else Q

set_option maxHeartbeats 1000000 in
theorem floor_walk (q r X : Int) (sm n ok : Bool)
    (h : (n = false ∧ sm = true ∧ q < 9223372036854775808 ∧ IntKind.i64.wrap q = X ∧ ok = true) ∨ (n = false ∧ sm = true ∧ ¬ q < 9223372036854775808 ∧ IntKind.i64.wrap q = X ∧ ok = false) ∨ (n = false ∧ sm = false ∧ IntKind.i64.wrap q = X ∧ ok = false) ∨
      (n = true ∧ 0 < r ∧ (q == 18446744073709551615) = true ∧ X = 0 ∧ ok = false) ∨
      (n = true ∧ 0 < r ∧ (q == 18446744073709551615) = false ∧ ∃ q' m, IntKind.u64.wrap (q + 1) = q' ∧ IntKind.u64.wrap (-q') = m ∧ IntKind.i64.wrap m = X ∧ ((sm = true ∧ q' ≤ 9223372036854775808 ∧ ok = true) ∨ (sm = true ∧ ¬ q' ≤ 9223372036854775808 ∧ ok = false) ∨ (sm = false ∧ ok = false))) ∨
      (n = true ∧ ¬ 0 < r ∧ ∃ m, IntKind.u64.wrap (-q) = m ∧ IntKind.i64.wrap m = X ∧ ((sm = true ∧ q ≤ 9223372036854775808 ∧ ok = true) ∨ (sm = true ∧ ¬ q ≤ 9223372036854775808 ∧ ok = false) ∨ (sm = false ∧ ok = false)))) (w : World) :
    Calls Try.prog 32 #[.int .u64 q, .int .u64 r, .bool sm, .bool n] w fun e w' => e = .returned (.tuple #[.int .i64 X, .bool ok]) ∧ Grown w w' := by
  rcases h with ⟨rfl, rfl, c, e, rfl⟩ | ⟨rfl, rfl, c, e, rfl⟩ | ⟨rfl, rfl, e, rfl⟩ | ⟨rfl, c, e, rfl, rfl⟩ | ⟨rfl, c, e, q', m, f1, f2, f3, h⟩ | ⟨rfl, c, m, f2, f3, h⟩
  · go_enter Try.func32, Try.ntmps32
    go_wp2
    go_ret2
    exact ⟨rfl, Grown.refl _⟩
  · go_enter Try.func32, Try.ntmps32
    go_wp2
    go_ret2
    exact ⟨by simp, Grown.refl _⟩
  · go_enter Try.func32, Try.ntmps32
    go_wp2
    go_ret2
    exact ⟨rfl, Grown.refl _⟩
  · go_enter Try.func32, Try.ntmps32
    go_wp2
    go_ret2
    exact ⟨rfl, Grown.refl _⟩
  · rcases h with ⟨rfl, k, rfl⟩ | ⟨rfl, k, rfl⟩ | ⟨rfl, rfl⟩
    all_goals
      go_enter Try.func32, Try.ntmps32
      go_wp2
      go_ret2
      exact ⟨by first | rfl | simp, Grown.refl _⟩
  · rcases h with ⟨rfl, k, rfl⟩ | ⟨rfl, k, rfl⟩ | ⟨rfl, rfl⟩
    all_goals
      go_enter Try.func32, Try.ntmps32
      go_wp2
      go_ret2
      exact ⟨by first | rfl | simp, Grown.refl _⟩

theorem floor_any (Q r : Int) (n : Bool) (hQ : 0 ≤ Q) : ∃ X ok, (I64 (flv Q r n) → X = flv Q r n) ∧ ok = decide (I64 (flv Q r n)) ∧ ∀ w, Calls Try.prog 32 #[.int .u64 (Q % 18446744073709551616), .int .u64 r, .bool (decide (Q < 18446744073709551616)), .bool n] w fun e w' => e = .returned (.tuple #[.int .i64 X, .bool ok]) ∧ Grown w w' := by
  obtain ⟨q, hq⟩ : ∃ q, q = Q % 18446744073709551616 := ⟨_, rfl⟩
  rw [← hq]
  by_cases hs : Q < 18446744073709551616
  · have hqQ : q = Q := by omega
    rw [decide_eq_true hs]
    cases n
    · have e : flv Q r false = Q := rfl
      rw [e]
      by_cases c : q < 9223372036854775808
      · have hi : I64 Q := ⟨by omega, by omega⟩
        exact ⟨_, _, fun _ => (by rw [IntKind.wrap_i64]; omega : IntKind.i64.wrap q = Q), (decide_eq_true hi).symm, fun w => floor_walk q r _ true false true (.inl ⟨rfl, rfl, c, rfl, rfl⟩) w⟩
      · have hi : ¬ I64 Q := fun h => c (by have := h.2; omega)
        exact ⟨_, _, fun h => absurd h hi, (decide_eq_false hi).symm, fun w => floor_walk q r _ true false false (.inr (.inl ⟨rfl, rfl, c, rfl, rfl⟩)) w⟩
    · by_cases hr0 : 0 < r
      · have e : flv Q r true = -(Q + 1) := by unfold flv; rw [if_pos hr0]; rfl
        rw [e]
        by_cases hm : q = 18446744073709551615
        · have hi : ¬ I64 (-(Q + 1)) := fun h => by have := h.1; omega
          exact ⟨0, _, fun h => absurd h hi, (decide_eq_false hi).symm, fun w => floor_walk q r _ true true false (.inr (.inr (.inr (.inl ⟨rfl, hr0, by simpa using hm, rfl, rfl⟩)))) w⟩
        · by_cases c : q + 1 ≤ 9223372036854775808
          · have hi : I64 (-(Q + 1)) := ⟨by omega, by omega⟩
            exact ⟨_, _, fun _ => (by simp only [IntKind.wrap_i64, IntKind.wrap_u64]; omega : IntKind.i64.wrap (IntKind.u64.wrap (-(q + 1))) = -(Q + 1)), (decide_eq_true hi).symm, fun w => floor_walk q r _ true true true (.inr (.inr (.inr (.inr (.inl ⟨rfl, hr0, by simpa using hm, q + 1, _, by rw [IntKind.wrap_u64]; omega, rfl, rfl, .inl ⟨rfl, c, rfl⟩⟩))))) w⟩
          · have hi : ¬ I64 (-(Q + 1)) := fun h => c (by have := h.1; omega)
            exact ⟨_, _, fun h => absurd h hi, (decide_eq_false hi).symm, fun w => floor_walk q r _ true true false (.inr (.inr (.inr (.inr (.inl ⟨rfl, hr0, by simpa using hm, q + 1, _, by rw [IntKind.wrap_u64]; omega, rfl, rfl, .inr (.inl ⟨rfl, c, rfl⟩)⟩))))) w⟩
      · have e : flv Q r true = -(Q + 0) := by unfold flv; rw [if_neg hr0]; rfl
        rw [e, Int.add_zero]
        by_cases c : q ≤ 9223372036854775808
        · have hi : I64 (-Q) := ⟨by omega, by omega⟩
          exact ⟨_, _, fun _ => (by simp only [IntKind.wrap_i64, IntKind.wrap_u64]; omega : IntKind.i64.wrap (IntKind.u64.wrap (-q)) = -Q), (decide_eq_true hi).symm, fun w => floor_walk q r _ true true true (.inr (.inr (.inr (.inr (.inr ⟨rfl, hr0, _, rfl, rfl, .inl ⟨rfl, c, rfl⟩⟩))))) w⟩
        · have hi : ¬ I64 (-Q) := fun h => c (by have := h.1; omega)
          exact ⟨_, _, fun h => absurd h hi, (decide_eq_false hi).symm, fun w => floor_walk q r _ true true false (.inr (.inr (.inr (.inr (.inr ⟨rfl, hr0, _, rfl, rfl, .inr (.inl ⟨rfl, c, rfl⟩)⟩))))) w⟩
  · rw [decide_eq_false hs]
    have hi : ¬ I64 (flv Q r n) := fun h => by
      have h1 := h.1; have h2 := h.2
      unfold flv at h1 h2
      cases n
      · simp at h2; omega
      · by_cases hr0 : 0 < r
        · simp [hr0] at h1; omega
        · simp [hr0] at h1; omega
    cases n
    · exact ⟨_, _, fun h => absurd h hi, (decide_eq_false hi).symm, fun w => floor_walk q r _ false false false (.inr (.inr (.inl ⟨rfl, rfl, rfl, rfl⟩))) w⟩
    · by_cases hr0 : 0 < r
      · by_cases hm : q = 18446744073709551615
        · exact ⟨0, _, fun h => absurd h hi, (decide_eq_false hi).symm, fun w => floor_walk q r _ false true false (.inr (.inr (.inr (.inl ⟨rfl, hr0, by simpa using hm, rfl, rfl⟩)))) w⟩
        · exact ⟨_, _, fun h => absurd h hi, (decide_eq_false hi).symm, fun w => floor_walk q r _ false true false (.inr (.inr (.inr (.inr (.inl ⟨rfl, hr0, by simpa using hm, _, _, rfl, rfl, rfl, .inr (.inr ⟨rfl, rfl⟩)⟩))))) w⟩
      · exact ⟨_, _, fun h => absurd h hi, (decide_eq_false hi).symm, fun w => floor_walk q r _ false true false (.inr (.inr (.inr (.inr (.inr ⟨rfl, hr0, _, rfl, rfl, .inr (.inr ⟨rfl, rfl⟩)⟩))))) w⟩

/-- The quotient of magnitudes, rounded down, by the quotient and the rest. -/
theorem flv_qs (V d : Int) (n : Bool) (hd : 0 < d) : flv (V / d) (V % d) n = qs V d n := by
  unfold flv qs
  cases n
  · rfl
  · have h0 := Int.emod_nonneg V (show d ≠ 0 by omega)
    have h1 := Int.emod_lt_of_pos V hd
    have h2 := Int.mul_ediv_add_emod V d
    have e : (V + d - 1) / d = V / d + if 0 < V % d then 1 else 0 := by
      rw [Int.ediv_eq_iff_of_pos hd, Int.add_mul, Int.mul_comm (V / d) d]
      split <;> omega
    simp [e]
end Go.Proofs.Ytnmlknjjbonenaa
