/-
  Package fx: what each function returns, for all arguments, by contracts on whole numbers.
-/
import Derived.Test.YtlcenopebgkjgaaMulDiv
import Derived.OpenShut
namespace Go.Proofs.Ytlcenopebgkjgaa
open Go.RowKit Go.Lib

/-- A number of 32 bits with a sign. -/
def I32 (v : Int) : Prop := -2147483648 ≤ v ∧ v < 2147483648
theorem ik64 (a : Int) (h1 : -9223372036854775808 ≤ a := by decide) (h2 : a < 9223372036854775808 := by decide) : I64 a := ⟨h1, h2⟩
theorem I32.i64 {n : Int} (h : I32 n) : I64 n := by obtain ⟨h1, h2⟩ := h; exact ⟨by omega, by omega⟩

end Go.Proofs.Ytlcenopebgkjgaa
