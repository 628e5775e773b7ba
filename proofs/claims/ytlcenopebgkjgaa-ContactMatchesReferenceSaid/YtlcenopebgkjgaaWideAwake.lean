/-
  The fixed examples of package wide, and the laws that need no reference implementation.
-/
import Derived.Test.YtlcenopebgkjgaaMulDiv
import Derived.Deep.RegionHeld3
import Derived.OpenShut
namespace Go.Proofs.Ytlcenopebgkjgaa
open Go.RowKit Go.Lib

theorem grown_trans {a b c : World} (h1 : Grown a b) (h2 : Grown b c) : Grown a c :=
  ⟨World.keptBut_trans h1.1 h2.1, fun a => (h2.2.1 a).trans (h1.2.1 a), Nat.le_trans h1.2.2 h2.2.2⟩
end Go.Proofs.Ytlcenopebgkjgaa
