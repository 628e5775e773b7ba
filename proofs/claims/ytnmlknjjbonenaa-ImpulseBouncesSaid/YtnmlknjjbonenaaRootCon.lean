/-
  Package root: the contracts of its functions, by named results.
-/
import Derived.Test.YtnmlknjjbonenaaRootArith
import Derived.WalkKit
import Derived.Lib.EndianBits
import Derived.Lib.Walk
import Derived.Lib.Hide
import Derived.Lib.Small
import Derived.Laws.Bits64b
namespace Go.Proofs.Ytnmlknjjbonenaa
open Go.RowKit Go.Lib

theorem grow {f : Nat} {args : Array Value} {w : World} {e0 : Ending} (h : Calls Try.prog f args w fun e w' => e = e0 ∧ w = w') : Calls Try.prog f args w fun e w' => e = e0 ∧ Grown w w' :=
  h.mono fun _ _ ⟨a, b⟩ => ⟨a, by rw [← b]; exact Grown.refl _⟩

end Go.Proofs.Ytnmlknjjbonenaa
