import Derived.Test.YtaknmlohnifcdaaGreatDoorMStpOps2
import Derived.Test.YtaknmlohnifcdaaGreatDoorMStpAwake
import Derived.Deep.DeepCutAuto
namespace Go.Proofs.YtaknmlohnifcdaaGreatDoor
open Go.RowKit Go.Lib

theorem tops : TOps where
 stp := kstep
 sts := ksteps
 fre h k := kfree h k
theorem taw : TAwake := stp_awake tops
end Go.Proofs.YtaknmlohnifcdaaGreatDoor
