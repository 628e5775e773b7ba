/-
  Whole square roots: plain arithmetic, of no program.
-/
import Derived.Test.YtnmlknjjbonenaaProg
namespace Go.Proofs.Ytnmlknjjbonenaa

/-- r is the greatest number whose square is at most n. -/
def IsRoot (r n : Int) : Prop := 0 ≤ r ∧ r * r ≤ n ∧ n < (r + 1) * (r + 1)
theorem sq_le {a b : Int} (h0 : 0 ≤ a) (h : a ≤ b) : a * a ≤ b * b := Int.mul_le_mul h h h0 (by omega)
theorem IsRoot.iff {r n t : Int} (h : IsRoot r n) (ht : 0 ≤ t) : t * t ≤ n ↔ t ≤ r := by
  obtain ⟨h0, h1, h2⟩ := h
  constructor
  · intro c
    by_cases d : t ≤ r
    · exact d
    · have := sq_le (a := r + 1) (b := t) (by omega) (by omega); omega
  · intro c
    have := sq_le ht c
    omega
theorem IsRoot.mono {r s n m : Int} (h : IsRoot r n) (g : IsRoot s m) (hn : n ≤ m) : r ≤ s :=
  (g.iff h.1).mp (Int.le_trans h.2.1 hn)
end Go.Proofs.Ytnmlknjjbonenaa
