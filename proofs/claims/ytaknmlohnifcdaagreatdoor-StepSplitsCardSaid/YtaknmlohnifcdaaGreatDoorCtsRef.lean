/-
  Package contacts: the reference.
-/
import Derived.Test.YtaknmlohnifcdaaGreatDoorJ19CtsMath
import Derived.Test.YtaknmlohnifcdaaGreatDoorJ04PointRef
import Derived.Test.YtaknmlohnifcdaaGreatDoorJ02Seq
import Derived.Deep.DeepCutAuto
import Derived.Deep.QuietTactic
import Derived.BigQuiet
import Derived.Test.YtaknmlohnifcdaaGreatDoorJ18ViewMath
namespace Go.Proofs.YtaknmlohnifcdaaGreatDoor
open Go.RowKit Go.Lib

theorem info_con : (Tryz.prog.info? 77).map (fun i => (i.zero, i.size, i.bytes)) = some (some (.agg #[.int .u32 0, .int .u32 0, .int .i32 0, .int .i32 0, .int .i32 0]), 5, 20) := by kernel_rfl
theorem lowB_lt {x y : Bd} (h : x.k < y.k) : lowB x y = x ∧ higB x y = y := by
  unfold lowB higB
  rw [if_neg (by omega), if_neg (by omega)]
  exact ⟨rfl, rfl⟩
end Go.Proofs.YtaknmlohnifcdaaGreatDoor
