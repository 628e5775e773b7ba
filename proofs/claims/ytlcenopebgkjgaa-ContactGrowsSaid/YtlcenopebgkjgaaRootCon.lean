/-
  Package root: the contracts of its functions, by named results.
-/
import Derived.Test.YtlcenopebgkjgaaRootRef
namespace Go.Proofs.Ytlcenopebgkjgaa
open Go.RowKit Go.Lib

theorem grow {f : Nat} {args : Array Value} {w : World} {e0 : Ending} (h : Calls Try.prog f args w fun e w' => e = e0 ∧ w = w') : Calls Try.prog f args w fun e w' => e = e0 ∧ Grown w w' :=
  h.mono fun _ _ ⟨a, b⟩ => ⟨a, by rw [← b]; exact Grown.refl _⟩

abbrev Isq1 (n q : Int) : Prop := ∀ w, Calls Try.prog 36 #[.int .u64 n] w fun e w' => e = .returned (.int .u64 q) ∧ w = w'
abbrev Rsq1 (n q : Int) : Prop := ∀ w, Calls Try.prog 42 #[.int .u64 n] w fun e w' => e = .returned (.int .u64 q) ∧ w = w'
theorem isq1 {n r : Int} (hr : IsRoot r n) (h1 : n < 18446744073709551616) : Isq1 n r := fun w => isqrt_any n r (Lib.hid hr) h1 w
theorem rsq1 {n r : Int} (hr : IsRoot r n) (h1 : n < 18446744073709551616) : Rsq1 n r := fun w => refisqrt_any n r (Lib.hid hr) h1 w
end Go.Proofs.Ytlcenopebgkjgaa
