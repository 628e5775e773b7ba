/-
  Package fx: what each function returns, for all arguments, by contracts on whole numbers.
-/
import Derived.Test.YtnmlknjjbonenaaMulDiv
import Derived.OpenShut
namespace Go.Proofs.Ytnmlknjjbonenaa
open Go.RowKit Go.Lib

/-- A number of 32 bits with a sign. -/
def I32 (v : Int) : Prop := -2147483648 ≤ v ∧ v < 2147483648
/-- The nearest number of 32 bits. -/
def sat (n : Int) : Int := max (-2147483648) (min n 2147483647)
theorem I32.i64 {n : Int} (h : I32 n) : I64 n := by obtain ⟨h1, h2⟩ := h; exact ⟨by omega, by omega⟩

theorem mul32 {a b : Int} (ha : I32 a) (hb : I32 b) : -4611686018427387904 ≤ a * b ∧ a * b ≤ 4611686018427387904 := by
  obtain ⟨h1, h2⟩ := ha; obtain ⟨h3, h4⟩ := hb
  have k : ∀ x y : Int, 0 ≤ x → x ≤ 2147483648 → 0 ≤ y → y ≤ 2147483648 → 0 ≤ x * y ∧ x * y ≤ 4611686018427387904 := fun x y a b c d =>
    ⟨Int.mul_nonneg a c, Int.mul_le_mul b d c (by omega)⟩
  by_cases c : a < 0 <;> by_cases d : b < 0
  · have := k (-a) (-b) (by omega) (by omega) (by omega) (by omega); rw [Int.neg_mul_neg] at this; omega
  · have := k (-a) b (by omega) (by omega) (by omega) (by omega); rw [Int.neg_mul] at this; omega
  · have := k a (-b) (by omega) (by omega) (by omega) (by omega); rw [Int.mul_neg] at this; omega
  · have := k a b (by omega) (by omega) (by omega) (by omega); omega

end Go.Proofs.Ytnmlknjjbonenaa
