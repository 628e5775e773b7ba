/-
  Package segment: what it gives.
-/
import Derived.Test.YtadbpfmgdjegoaaSegOps
import Derived.Test.YtadbpfmgdjegoaaSegAwake
import Derived.Deep.DeepCutAuto
namespace Go.Proofs.Ytadbpfmgdjegoaa
open Go.RowKit Go.Lib

theorem sops : SOps where
  chosen := sch
  dist := sds
theorem saw : SAwake := seg_awake sops
end Go.Proofs.Ytadbpfmgdjegoaa
