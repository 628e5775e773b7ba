/-
  Package fx: the contracts of its functions, by named results.
-/
import Derived.Test.YtohkacgmdboknaaFxRef
import Derived.Test.YtohkacgmdboknaaGrown
namespace Go.Proofs.Ytohkacgmdboknaa
open Go.RowKit Go.Lib

abbrev Add2 (a b q : Int) : Prop := ∀ w, Calls Try.prog 30 #[.int .i32 a, .int .i32 b] w fun e' w' => e' = .returned (.int .i32 q) ∧ Grown w w'
abbrev Sub2 (a b q : Int) : Prop := ∀ w, Calls Try.prog 31 #[.int .i32 a, .int .i32 b] w fun e' w' => e' = .returned (.int .i32 q) ∧ Grown w w'
abbrev Mul2 (a b q : Int) : Prop := ∀ w, Calls Try.prog 32 #[.int .i32 a, .int .i32 b] w fun e' w' => e' = .returned (.int .i32 q) ∧ Grown w w'
abbrev Neg1 (a q : Int) : Prop := ∀ w, Calls Try.prog 34 #[.int .i32 a] w fun e' w' => e' = .returned (.int .i32 q) ∧ Grown w w'
theorem add2 {a b q : Int} (ha : I32 a) (hb : I32 b) (h : sat (a + b) = q) : Add2 a b q := fun w => by rw [← h]; exact add_any a b ha hb w
theorem sub2 {a b q : Int} (ha : I32 a) (hb : I32 b) (h : sat (a - b) = q) : Sub2 a b q := fun w => by rw [← h]; exact sub_any a b ha hb w
theorem mul2 {a b q : Int} (ha : I32 a) (hb : I32 b) (h : sat (a * b / 65536) = q) : Mul2 a b q := fun w => by rw [← h]; exact mul_any a b ha hb w
theorem neg1 {a q : Int} (ha : I32 a) (h : sat (-a) = q) : Neg1 a q := fun w => by rw [← h]; exact neg_any a ha w
end Go.Proofs.Ytohkacgmdboknaa
