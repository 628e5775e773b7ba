/-
  Whole square roots: plain arithmetic, of no program.
-/
import Derived.Test.YtackomnbdcboaaaProg
namespace Go.Proofs.Ytackomnbdcboaaa

/-- r is the greatest number whose square is at most n. -/
def IsRoot (r n : Int) : Prop := 0 ≤ r ∧ r * r ≤ n ∧ n < (r + 1) * (r + 1)
/-- c is the least number whose square is at least n. -/
def IsCeil (c n : Int) : Prop := ∃ r, IsRoot r n ∧ ((r * r < n ∧ c = r + 1) ∨ (r * r = n ∧ c = r))

theorem sq_le {a b : Int} (h0 : 0 ≤ a) (h : a ≤ b) : a * a ≤ b * b := Int.mul_le_mul h h h0 (by omega)
theorem sq_lt {a b : Int} (h0 : 0 ≤ a) (h : a < b) : a * a < b * b := by
  have h1 := sq_le (a := a + 1) (b := b) (by omega) (by omega)
  have e : (a + 1) * (a + 1) = a * a + 2 * a + 1 := by rw [Int.add_mul, Int.mul_add]; omega
  omega
theorem sq_le_iff {a b : Int} (ha : 0 ≤ a) (hb : 0 ≤ b) : a * a ≤ b * b ↔ a ≤ b :=
  ⟨fun h => by
    by_cases c : a ≤ b
    · exact c
    · have := sq_lt hb (show b < a by omega); omega, sq_le ha⟩
theorem sq_succ (a : Int) : (a + 1) * (a + 1) = a * a + 2 * a + 1 := by rw [Int.add_mul, Int.mul_add]; omega

theorem IsRoot.iff {r n t : Int} (h : IsRoot r n) (ht : 0 ≤ t) : t * t ≤ n ↔ t ≤ r := by
  obtain ⟨h0, h1, h2⟩ := h
  constructor
  · intro c
    by_cases d : t ≤ r
    · exact d
    · have := sq_le (a := r + 1) (b := t) (by omega) (by omega); omega
  · intro c
    have := sq_le ht c
    omega
theorem IsRoot.unique {r s n : Int} (h : IsRoot r n) (g : IsRoot s n) : r = s := by
  have a := (h.iff g.1).mp g.2.1
  have b := (g.iff h.1).mp h.2.1
  omega
theorem IsRoot.mono {r s n m : Int} (h : IsRoot r n) (g : IsRoot s m) (hn : n ≤ m) : r ≤ s :=
  (g.iff h.1).mp (Int.le_trans h.2.1 hn)
theorem IsRoot.le_max {r n : Int} (h : IsRoot r n) (hn : n < 18446744073709551616) : r ≤ 4294967295 := by
  by_cases c : r ≤ 4294967295
  · exact c
  · have := (h.iff (t := 4294967296) (by decide)).mpr (by omega)
    omega
theorem IsRoot.of_sq {r : Int} (h : 0 ≤ r) : IsRoot r (r * r) := ⟨h, Int.le_refl _, by rw [sq_succ]; omega⟩

/-- The root of a natural number, counted up. -/
def rtN : Nat → Nat
  | 0 => 0
  | n + 1 => if (rtN n + 1) * (rtN n + 1) ≤ n + 1 then rtN n + 1 else rtN n

theorem rtN_is : ∀ n : Nat, rtN n * rtN n ≤ n ∧ n < (rtN n + 1) * (rtN n + 1)
  | 0 => by decide
  | n + 1 => by
    obtain ⟨a, b⟩ := rtN_is n
    rw [rtN]
    split
    · rename_i c
      refine ⟨c, ?_⟩
      have e : (rtN n + 1 + 1) * (rtN n + 1 + 1) = (rtN n + 1) * (rtN n + 1) + 2 * (rtN n + 1) + 1 := by rw [Nat.add_mul, Nat.mul_add]; omega
      omega
    · exact ⟨by omega, by omega⟩

/-- The whole square root of a number. -/
def rt (n : Int) : Int := (rtN n.toNat : Int)

theorem rt_is {n : Int} (h : 0 ≤ n) : IsRoot (rt n) n := by
  obtain ⟨m, rfl⟩ := Int.eq_ofNat_of_zero_le h
  obtain ⟨a, b⟩ := rtN_is m
  have e : rt (m : Int) = (rtN m : Int) := rfl
  rw [e]
  refine ⟨by omega, ?_, ?_⟩
  · rw [← Int.natCast_mul]; omega
  · have : ((rtN m : Int) + 1) * ((rtN m : Int) + 1) = (((rtN m + 1) * (rtN m + 1) : Nat) : Int) := by rw [Int.natCast_mul]; rfl
    rw [this]; omega
theorem rt_eq {r n : Int} (h : IsRoot r n) : rt n = r := by
  have h0 : 0 ≤ n := by
    have := Int.mul_nonneg h.1 h.1
    have := h.2.1; omega
  exact (rt_is h0).unique h

/-- The whole square root of a number, rounded up. -/
def ct (n : Int) : Int := if rt n * rt n < n then rt n + 1 else rt n

theorem ct_is {n : Int} (h : 0 ≤ n) : 0 ≤ ct n ∧ n ≤ ct n * ct n ∧ (∀ c : Int, 0 ≤ c → n ≤ c * c → ct n ≤ c) := by
  have r := rt_is h
  obtain ⟨h0, h1, h2⟩ := r
  unfold ct
  split
  · rename_i g
    refine ⟨by omega, by omega, fun c c0 cc => ?_⟩
    by_cases d : rt n + 1 ≤ c
    · exact d
    · have := sq_le c0 (show c ≤ rt n by omega); omega
  · refine ⟨h0, by omega, fun c c0 cc => ?_⟩
    have e : rt n * rt n = n := by omega
    rw [← e] at cc
    exact (sq_le_iff h0 c0).mp cc
theorem ct_sq {k : Int} (h : 0 ≤ k) : ct (k * k) = k := by
  have e := rt_eq (IsRoot.of_sq h)
  unfold ct
  rw [e, if_neg (by omega)]
theorem ct_bounds (n : Int) : rt n ≤ ct n ∧ ct n ≤ rt n + 1 := by
  unfold ct; split <;> omega
end Go.Proofs.Ytackomnbdcboaaa
