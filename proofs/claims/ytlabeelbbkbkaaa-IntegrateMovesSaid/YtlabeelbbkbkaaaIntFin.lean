/-
  Package integrate: what it gives.
-/
import Derived.Test.YtlabeelbbkbkaaaIntOps3
import Derived.Test.YtlabeelbbkbkaaaIntAwake
import Derived.Deep.DeepCutAuto
namespace Go.Proofs.Ytlabeelbbkbkaaa
open Go.RowKit Go.Lib

theorem yops : YOps where
  grv := ygrv
  mvq := ymov
  psh h hj hk := yp h hj hk
theorem yaw : YAwake := int_awake yops
end Go.Proofs.Ytlabeelbbkbkaaa
