/-
  Package jacobi: what it gives.
-/
import Derived.Test.YtbeaoogjcgplnaaJacOps3
import Derived.Test.YtbeaoogjcgplnaaJacAwake
import Derived.Deep.DeepCutAuto
namespace Go.Proofs.Ytbeaoogjcgplnaa
open Go.RowKit Go.Lib

theorem jops : JOps where
  sums := jsums
  round v _ l _ w h hl A := (jround A v l w h hl).mono fun _ _ ⟨v', e, h, k⟩ => ⟨v', e, h.1, k⟩
  solve := jsolve
theorem jaw : JAwake := jac_awake jops
end Go.Proofs.Ytbeaoogjcgplnaa
