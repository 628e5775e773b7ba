/-
  Package body: Check.
-/
import Derived.Test.YtlcenopebgkjgaaBodyFun
namespace Go.Proofs.Ytlcenopebgkjgaa
open Go.RowKit Go.Lib

/-- One step from world to world: a Grown under a name of its own. -/
def Stp (w w' : World) : Prop := Grown w w'
theorem Keeps.step {B : Nat} {w w' w'' : World} (h : Keeps B w w') (g : Stp w' w'') : Keeps B w w'' := h.grown g

end Go.Proofs.Ytlcenopebgkjgaa
