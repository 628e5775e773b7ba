/-
  Package contacts: what it gives.
-/
import Derived.Test.YtangalkbjochjaaGreatDoorCtsAll
import Derived.Test.YtangalkbjochjaaGreatDoorCtsAwake
namespace Go.Proofs.YtangalkbjochjaaGreatDoor

theorem cops : COps := ⟨ctall, cwith, cdeep⟩
theorem caw : CAwake := cts_awake cops
end Go.Proofs.YtangalkbjochjaaGreatDoor
