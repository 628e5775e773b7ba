/-
  Package fx: what each function returns, for all arguments, by contracts on whole numbers.
-/
import Derived.Test.YtllkokfaodpfiaaWide
import Derived.Deep.RegionWith
import Derived.OpenShut
namespace Go.Proofs.Ytllkokfaodpfiaa
open Go.RowKit Go.Lib

/-- A number of 32 bits with a sign. -/
def I32 (v : Int) : Prop := -2147483648 ≤ v ∧ v < 2147483648
theorem I32.i64 {n : Int} (h : I32 n) : I64 n := by obtain ⟨h1, h2⟩ := h; exact ⟨by omega, by omega⟩

end Go.Proofs.Ytllkokfaodpfiaa
