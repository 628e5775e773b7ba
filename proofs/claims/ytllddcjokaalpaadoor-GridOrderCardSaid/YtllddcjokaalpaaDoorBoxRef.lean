/-
  Package box: contracts of its functions; its slow reference.
-/
import Derived.Test.YtllddcjokaalpaaDoorBodyRef
import Derived.Test.YtllddcjokaalpaaDoorBoxMath
import Derived.Deep.QuietTactic
import Derived.BigQuiet
namespace Go.Proofs.YtllddcjokaalpaaDoor
open Go.RowKit Go.Lib

abbrev REm (xa ya za ta : Int) (z : Bool) : Prop := ∀ w, Calls Tryd.prog 35 #[.agg #[.int .i32 xa, .int .i32 ya, .int .i32 za, .int .i32 ta]] w fun e w' => e = .returned (.bool z) ∧ Grown w w'
abbrev ROv (xa ya za ta xb yb zb tb : Int) (z : Bool) : Prop := ∀ w, Calls Tryd.prog 19 #[.agg #[.int .i32 xa, .int .i32 ya, .int .i32 za, .int .i32 ta], .agg #[.int .i32 xb, .int .i32 yb, .int .i32 zb, .int .i32 tb]] w fun e w' => e = .returned (.bool z) ∧ Grown w w'
abbrev RCo (xa ya za ta x y : Int) (z : Bool) : Prop := ∀ w, Calls Tryd.prog 21 #[.agg #[.int .i32 xa, .int .i32 ya, .int .i32 za, .int .i32 ta], .agg #[.int .i32 x, .int .i32 y]] w fun e w' => e = .returned (.bool z) ∧ Grown w w'
theorem rem (xa ya za ta : Int) (z : Bool) (hz : empB xa ya za ta = z) : REm xa ya za ta z := fun w => by
  by_cases g0 : za < xa
  · obtain rfl : true = z := by rw [← hz]; unfold empB; exact (decide_eq_true (by omega)).symm
    clear hz
    go_enter Tryd.func35, Tryd.ntmps35
    go_wp2
    go_ret
    exact ⟨rfl, (Grown.refl _).alloc _ _⟩
  by_cases g1 : ta < ya
  · obtain rfl : true = z := by rw [← hz]; unfold empB; exact (decide_eq_true (by omega)).symm
    clear hz
    go_enter Tryd.func35, Tryd.ntmps35
    go_wp2
    go_ret
    exact ⟨rfl, (Grown.refl _).alloc _ _⟩
  obtain rfl : false = z := by rw [← hz]; unfold empB; exact (decide_eq_false (by omega)).symm
  clear hz
  go_enter Tryd.func35, Tryd.ntmps35
  go_wp2
  go_ret
  exact ⟨rfl, (Grown.refl _).alloc _ _⟩
theorem rco (xa ya za ta x y : Int) (z : Bool) (hz : conB xa ya za ta x y = z) : RCo xa ya za ta x y z := fun w => by
  by_cases g0 : xa ≤ x
  rotate_left
  · obtain rfl : false = z := by rw [← hz]; unfold conB; exact (decide_eq_false (by omega)).symm
    clear hz
    go_enter Tryd.func21, Tryd.ntmps21
    go_wp2
    go_ret
    exact ⟨rfl, ((Grown.refl _).alloc _ _).alloc _ _⟩
  by_cases g1 : x ≤ za
  rotate_left
  · obtain rfl : false = z := by rw [← hz]; unfold conB; exact (decide_eq_false (by omega)).symm
    clear hz
    go_enter Tryd.func21, Tryd.ntmps21
    go_wp2
    go_ret
    exact ⟨rfl, ((Grown.refl _).alloc _ _).alloc _ _⟩
  by_cases g2 : ya ≤ y
  rotate_left
  · obtain rfl : false = z := by rw [← hz]; unfold conB; exact (decide_eq_false (by omega)).symm
    clear hz
    go_enter Tryd.func21, Tryd.ntmps21
    go_wp2
    go_ret
    exact ⟨rfl, ((Grown.refl _).alloc _ _).alloc _ _⟩
  by_cases g3 : y ≤ ta
  rotate_left
  · obtain rfl : false = z := by rw [← hz]; unfold conB; exact (decide_eq_false (by omega)).symm
    clear hz
    go_enter Tryd.func21, Tryd.ntmps21
    go_wp2
    go_ret
    exact ⟨rfl, ((Grown.refl _).alloc _ _).alloc _ _⟩
  obtain rfl : true = z := by rw [← hz]; unfold conB; exact (decide_eq_true (by omega)).symm
  clear hz
  go_enter Tryd.func21, Tryd.ntmps21
  go_wp2
  go_ret
  exact ⟨rfl, ((Grown.refl _).alloc _ _).alloc _ _⟩
end Go.Proofs.YtllddcjokaalpaaDoor
