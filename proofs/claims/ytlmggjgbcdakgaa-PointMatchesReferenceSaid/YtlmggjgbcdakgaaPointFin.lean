/-
  Package point: what it gives.
-/
import Derived.Test.YtlmggjgbcdakgaaPointOps
import Derived.Test.YtlmggjgbcdakgaaPointAwake
import Derived.Deep.DeepCutAuto
namespace Go.Proofs.Ytlmggjgbcdakgaa
open Go.RowKit Go.Lib

theorem nops : NOps where
  param := ppar
  near := pne
  dist := pds
theorem naw : NAwake := point_awake nops
end Go.Proofs.Ytlmggjgbcdakgaa
