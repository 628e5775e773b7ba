/-
  Package impulse: what it gives.
-/
import Derived.Test.YtnmlknjjbonenaaImpOps
import Derived.Test.YtnmlknjjbonenaaImpAwake
import Derived.Deep.DeepCutAuto
namespace Go.Proofs.Ytnmlknjjbonenaa
open Go.RowKit Go.Lib

theorem iops : IOps where
  appr h1 h2 := iap_ok (Vb.of h1) (Vb.of h2)
  bnc _ _ := ibn rfl
  str h1 h2 := ist_ok (Vb.of h1) (Vb.of h2)
  chg := ich_ok
theorem iaw : IAwake := imp_awake iops
end Go.Proofs.Ytnmlknjjbonenaa
