/-
  Whole square roots: plain arithmetic, of no program.
-/
import Derived.Test.YtlcenopebgkjgaaProg
namespace Go.Proofs.Ytlcenopebgkjgaa

/-- r is the greatest number whose square is at most n. -/
def IsRoot (r n : Int) : Prop := 0 ≤ r ∧ r * r ≤ n ∧ n < (r + 1) * (r + 1)
theorem sq_le {a b : Int} (h0 : 0 ≤ a) (h : a ≤ b) : a * a ≤ b * b := Int.mul_le_mul h h h0 (by omega)
theorem IsRoot.iff {r n t : Int} (h : IsRoot r n) (ht : 0 ≤ t) : t * t ≤ n ↔ t ≤ r := by
  obtain ⟨h0, h1, h2⟩ := h
  constructor
  · intro c
    by_cases d : t ≤ r
    · exact d
    · have := sq_le (a := r + 1) (b := t) (by omega) (by omega); omega
  · intro c
    have := sq_le ht c
    omega
theorem IsRoot.unique {r s n : Int} (h : IsRoot r n) (g : IsRoot s n) : r = s := by
  have a := (h.iff g.1).mp g.2.1
  have b := (g.iff h.1).mp h.2.1
  omega
theorem IsRoot.mono {r s n m : Int} (h : IsRoot r n) (g : IsRoot s m) (hn : n ≤ m) : r ≤ s :=
  (g.iff h.1).mp (Int.le_trans h.2.1 hn)
theorem IsRoot.le_max {r n : Int} (h : IsRoot r n) (hn : n < 18446744073709551616) : r ≤ 4294967295 := by
  by_cases c : r ≤ 4294967295
  · exact c
  · have := (h.iff (t := 4294967296) (by decide)).mpr (by omega)
    omega
/-- The root of a natural number, counted up. -/
def rtN : Nat → Nat
  | 0 => 0
  | n + 1 => if (rtN n + 1) * (rtN n + 1) ≤ n + 1 then rtN n + 1 else rtN n

theorem rtN_is : ∀ n : Nat, rtN n * rtN n ≤ n ∧ n < (rtN n + 1) * (rtN n + 1)
  | 0 => by decide
  | n + 1 => by
    obtain ⟨a, b⟩ := rtN_is n
    rw [rtN]
    split
    · rename_i c
      refine ⟨c, ?_⟩
      have e : (rtN n + 1 + 1) * (rtN n + 1 + 1) = (rtN n + 1) * (rtN n + 1) + 2 * (rtN n + 1) + 1 := by rw [Nat.add_mul, Nat.mul_add]; omega
      omega
    · exact ⟨by omega, by omega⟩

/-- The whole square root of a number. -/
def rt (n : Int) : Int := (rtN n.toNat : Int)

theorem rt_is {n : Int} (h : 0 ≤ n) : IsRoot (rt n) n := by
  obtain ⟨m, rfl⟩ := Int.eq_ofNat_of_zero_le h
  obtain ⟨a, b⟩ := rtN_is m
  have e : rt (m : Int) = (rtN m : Int) := rfl
  rw [e]
  refine ⟨by omega, ?_, ?_⟩
  · rw [← Int.natCast_mul]; omega
  · have : ((rtN m : Int) + 1) * ((rtN m : Int) + 1) = (((rtN m + 1) * (rtN m + 1) : Nat) : Int) := by rw [Int.natCast_mul]; rfl
    rw [this]; omega
theorem rt_eq {r n : Int} (h : IsRoot r n) : rt n = r := by
  have h0 : 0 ≤ n := by
    have := Int.mul_nonneg h.1 h.1
    have := h.2.1; omega
  exact (rt_is h0).unique h

end Go.Proofs.Ytlcenopebgkjgaa
