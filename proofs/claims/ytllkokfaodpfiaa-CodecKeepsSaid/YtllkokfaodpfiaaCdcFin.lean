/-
  Package codec: what the laws ask of the program, all of it.
-/
import Derived.Test.YtllkokfaodpfiaaCdcOps4
import Derived.Test.YtllkokfaodpfiaaCdcAwake
import Derived.Deep.DeepCutAuto
import Derived.Deep.QuietTactic
import Derived.BigQuiet
namespace Go.Proofs.Ytllkokfaodpfiaa
open Go.RowKit Go.Lib

theorem eops : EOps := ⟨cen, cde, fun n w h => csz n w h⟩
theorem eaw : EAwake := cdc_awake eops
end Go.Proofs.Ytllkokfaodpfiaa
