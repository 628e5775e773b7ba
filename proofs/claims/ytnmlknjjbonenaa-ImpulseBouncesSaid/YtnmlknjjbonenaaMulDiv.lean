/-
  Package wide: what MulDiv returns, for all arguments: the floor of the exact quotient where it is in range, and the error otherwise.
-/
import Derived.Test.YtnmlknjjbonenaaWide
import Derived.Deep.RegionWith
namespace Go.Proofs.Ytnmlknjjbonenaa
open Go.RowKit Go.Lib

theorem I64.mag0 {a : Int} (h : I64 a) : 0 ≤ mag a ∧ mag a ≤ 9223372036854775808 := by
  unfold mag; obtain ⟨h1, h2⟩ := h; split <;> omega
theorem mag_mul (a b : Int) : mag a * mag b = if (decide (a < 0) != decide (b < 0)) then -(a * b) else a * b := by
  unfold mag
  by_cases h1 : a < 0 <;> by_cases h2 : b < 0 <;> simp [h1, h2, Int.neg_mul, Int.mul_neg]

/-- The floor of n by c. -/
def fl (n c : Int) : Int := if c < 0 then (-n) / (-c) else n / c
/-- What MulDiv and MulShift return. -/
def mdv (a b c : Int) : Int := if c = 0 then 0 else rv (fl (a * b) c)
def mde (a b c : Int) : Int := if c = 0 then 2 else re (fl (a * b) c)
def msv (a b n : Int) : Int := if n < 0 ∨ 63 < n then 0 else rv (a * b / 2 ^ n.toNat)
def mse (a b n : Int) : Int := if n < 0 ∨ 63 < n then 1 else re (a * b / 2 ^ n.toNat)

theorem ceil_neg (P c : Int) (hc : 0 < c) : -((P + c - 1) / c) = (-P) / c := by
  apply Eq.symm
  rw [Int.ediv_eq_iff_of_pos hc]
  have h := Int.ediv_mul_add_emod (P + c - 1) c
  have h1 := Int.emod_nonneg (P + c - 1) (show c ≠ 0 by omega)
  have h2 := Int.emod_lt_of_pos (P + c - 1) hc
  rw [Int.neg_mul]
  omega

/-- The quotient of magnitudes with the sign is the floor of the quotient. -/
theorem qs_fl (a b c : Int) (hc : c ≠ 0) : qs (mag a * mag b) (mag c) ((decide (a < 0) != decide (b < 0)) != decide (c < 0)) = fl (a * b) c := by
  have hm := mag_mul a b
  obtain ⟨P, hP⟩ : ∃ P, P = mag a * mag b := ⟨_, rfl⟩
  rw [← hP] at hm ⊢
  obtain ⟨s, hs⟩ : ∃ s : Bool, s = (decide (a < 0) != decide (b < 0)) := ⟨_, rfl⟩
  rw [← hs] at hm ⊢
  clear hs hP
  unfold fl mag
  by_cases h : c < 0
  · rw [if_pos h, if_pos h]
    cases s
    · have e : P = a * b := by simpa using hm
      rw [← e]
      simp only [h, decide_true, Bool.false_bne, qs, if_true]
      exact ceil_neg P (-c) (by omega)
    · have e : P = -(a * b) := by simpa using hm
      rw [← e]
      simp [h, qs]
  · rw [if_neg h, if_neg h]
    cases s
    · have e : P = a * b := by simpa using hm
      rw [← e]
      simp [h, qs]
    · have e : P = -(a * b) := by simpa using hm
      have e2 : a * b = -P := by omega
      rw [e2]
      simp only [h, decide_false, Bool.bne_false, qs, if_true]
      exact ceil_neg P c (by omega)

theorem qs_shift (a b d : Int) (hd : 0 < d) : qs (mag a * mag b) d (decide (a < 0) != decide (b < 0)) = a * b / d := by
  have h := qs_fl a b d (by omega)
  have h1 : ¬ d < 0 := by omega
  have e : mag d = d := by unfold mag; rw [if_neg h1]
  rw [e] at h
  simpa [h1, fl] using h

set_option maxHeartbeats 1000000 in
theorem muldiv_any (a b c : Int) (ha : I64 a) (hb : I64 b) (hc : I64 c) (w : World) :
    Calls Try.prog 22 #[.int .i64 a, .int .i64 b, .int .i64 c] w fun e w' => e = .returned (.tuple #[.int .i64 (mdv a b c), .int .i64 (mde a b c)]) ∧ Grown w w' := by
  by_cases h0 : c = 0
  · subst h0
    have e1 : mdv a b 0 = 0 := rfl
    have e2 : mde a b 0 = 2 := rfl
    rw [e1, e2]
    go_enter Try.func22, Try.ntmps22
    go_wp2
    go_ret2
    exact ⟨rfl, Grown.refl _⟩
  · have e1 : mdv a b c = rv (fl (a * b) c) := if_neg h0
    have e2 : mde a b c = re (fl (a * b) c) := if_neg h0
    rw [e1, e2, ← qs_fl a b c h0]
    clear e1 e2
    have a0 := ha.mag0; have b0 := hb.mag0; have c0 := hc.mag0
    have c1 : 0 < mag c := by unfold mag; split <;> omega
    go_enter Try.func22, Try.ntmps22
    go_wp2_with (first
      | (go_at_call_of 29 (Value.int IntKind.i64 a); refine (mag_any a ha _).mono ?_; rintro e w' ⟨rfl, rfl⟩)
      | (go_at_call_of 29 (Value.int IntKind.i64 b); refine (mag_any b hb _).mono ?_; rintro e w' ⟨rfl, rfl⟩)
      | (go_at_call_of 29 (Value.int IntKind.i64 c); refine (mag_any c hc _).mono ?_; rintro e w' ⟨rfl, rfl⟩)
      | (go_at_call 28; refine (quot_any (mag a) (mag b) (mag c) _ a0.1 a0.2 b0.1 b0.2 c1 c0.2 _).mono ?_; rintro e w1 ⟨rfl, hg⟩))
    go_ret2
    exact ⟨rfl, hg⟩

end Go.Proofs.Ytnmlknjjbonenaa
