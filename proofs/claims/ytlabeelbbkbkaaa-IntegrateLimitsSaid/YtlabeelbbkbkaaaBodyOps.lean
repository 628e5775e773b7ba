/-
  Package body: its functions but Check.
-/
import Derived.Test.YtlabeelbbkbkaaaJ00DivArith
import Derived.Deep.DeepCutAuto
namespace Go.Proofs.Ytlabeelbbkbkaaa
open Go.RowKit Go.Lib

abbrev Sta (k r ax ay m o px py vx vy : Int) (c : Bool) : Prop := ∀ w, Calls Try.prog 25 #[.agg #[.int .u32 k, .int .i32 r, .int .i32 ax, .int .i32 ay, .int .i32 m, .int .i32 o, .int .i32 px, .int .i32 py, .int .i32 vx, .int .i32 vy]] w fun e w' => e = .returned (.bool c) ∧ Grown w w'
theorem sta (k r ax ay m o px py vx vy : Int) (c : Bool) (hc : decide (m = 0) = c) : Sta k r ax ay m o px py vx vy c := fun w => by
  by_cases h1 : m = 0
  · obtain rfl : true = c := by simpa [h1] using hc
    subst h1
    go_enter Try.func25, Try.ntmps25
    go_wp2
    go_ret
    exact ⟨rfl, (Grown.refl _).alloc _ _⟩
  · obtain rfl : false = c := by simpa [h1] using hc
    have h3 : (m == 0) = false := beq_eq_false_iff_ne.2 h1
    go_enter Try.func25, Try.ntmps25
    go_wp2
    go_ret
    exact ⟨rfl, (Grown.refl _).alloc _ _⟩
end Go.Proofs.Ytlabeelbbkbkaaa
