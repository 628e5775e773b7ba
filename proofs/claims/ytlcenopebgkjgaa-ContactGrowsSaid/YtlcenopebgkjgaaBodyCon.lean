/-
  Package body: the contract of Check, and the fixed examples of its laws.
-/
import Derived.Test.YtlcenopebgkjgaaBodyCheck
import Derived.Test.YtlcenopebgkjgaaBodyOps
import Derived.Test.YtlcenopebgkjgaaBodyRef
namespace Go.Proofs.Ytlcenopebgkjgaa
open Go.RowKit Go.Lib

theorem end_in (k r ax ay m o px py vx vy x y X Y : Int) (h1 : -4194304 ≤ ax ∧ ax ≤ 4194304) (h2 : -4194304 ≤ ay ∧ ay ≤ 4194304) (hp : -2143289344 ≤ px ∧ px ≤ 2143289343) (hq : -2143289344 ≤ py ∧ py ≤ 2143289343)
    (hx : px - ax = x) (hy : py - ay = y) (hX : px + ax = X) (hY : py + ay = Y) : End k r ax ay m o px py vx vy x y X Y :=
  end_of k r ax ay m o px py vx vy (-ax) (-ay) x y X Y (by unfold wrap32; omega) (by unfold wrap32; omega) (Lib.hid (mov _ _ _ _ _ _ _ _ _ _ _ _ _ _ (by unfold wrap32; omega) (by unfold wrap32; omega))) (Lib.hid (mov _ _ _ _ _ _ _ _ _ _ _ _ _ _ (by unfold wrap32; omega) (by unfold wrap32; omega)))

end Go.Proofs.Ytlcenopebgkjgaa
