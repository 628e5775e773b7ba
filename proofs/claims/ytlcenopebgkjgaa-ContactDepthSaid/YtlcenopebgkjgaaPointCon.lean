/-
  Package point: what the laws ask of the program.
-/
import Derived.Test.YtlcenopebgkjgaaPointRef2
import Derived.Test.YtlcenopebgkjgaaRootRef
import Derived.Deep.DeepCutAuto
namespace Go.Proofs.Ytlcenopebgkjgaa
open Go.RowKit Go.Lib

abbrev PPar (px py qx qy cx cy n d : Int) : Prop := ∀ w, Calls Try.prog 55 #[.agg #[.int .i32 px, .int .i32 py], .agg #[.int .i32 qx, .int .i32 qy], .agg #[.int .i32 cx, .int .i32 cy]] w fun e w' => e = .returned (.tuple #[.int .i64 n, .int .i64 d]) ∧ Kep w.heap.size w w'
abbrev PNe (px py qx qy cx cy x y : Int) : Prop := ∀ w, Calls Try.prog 47 #[.agg #[.int .i32 px, .int .i32 py], .agg #[.int .i32 qx, .int .i32 qy], .agg #[.int .i32 cx, .int .i32 cy]] w fun e w' => e = .returned (.agg #[.int .i32 x, .int .i32 y]) ∧ Kep w.heap.size w w'
abbrev PDs (px py qx qy cx cy t : Int) : Prop := ∀ w, Calls Try.prog 58 #[.agg #[.int .i32 px, .int .i32 py], .agg #[.int .i32 qx, .int .i32 qy], .agg #[.int .i32 cx, .int .i32 cy]] w fun e w' => e = .returned (.int .u64 t) ∧ Kep w.heap.size w w'
/-- What the laws ask of the program. -/
structure NOps : Prop where
  param : ∀ {px py qx qy cx cy dx dy ux uy d n x y t : Int}, Pt px py qx qy cx cy dx dy ux uy d n x y t → Rg px py qx qy cx cy → PPar px py qx qy cx cy n d
  near : ∀ {px py qx qy cx cy dx dy ux uy d n x y t : Int}, Pt px py qx qy cx cy dx dy ux uy d n x y t → Rg px py qx qy cx cy → PNe px py qx qy cx cy x y
  dist : ∀ {px py qx qy cx cy dx dy ux uy d n x y t : Int}, Pt px py qx qy cx cy dx dy ux uy d n x y t → Rg px py qx qy cx cy → PDs px py qx qy cx cy t
theorem vec_cmp (a b c d : Int) (z : Bool) (h : decide (a = c ∧ b = d) = z) (w : World) : (binOp .eql 24 (.agg #[.int .i32 a, .int .i32 b]) (.agg #[.int .i32 c, .int .i32 d])).run Try.prog w = .ok (.bool z) w := by
  rw [← h]
  by_cases e0 : a = c
  · by_cases e1 : b = d
    · subst e0; subst e1
      simp [go_sem]
    · subst e0
      simp [go_sem, e1]
  · simp [go_sem, e0]
theorem vec_ncmp (a b c d : Int) (z : Bool) (h : decide (a = c ∧ b = d) = z) (w : World) : (binOp .neq 24 (.agg #[.int .i32 a, .int .i32 b]) (.agg #[.int .i32 c, .int .i32 d])).run Try.prog w = .ok (.bool (!z)) w := by
  rw [← h]
  by_cases e0 : a = c
  · by_cases e1 : b = d
    · subst e0; subst e1
      simp [go_sem]
    · subst e0
      simp [go_sem, e1]
  · simp [go_sem, e0]
end Go.Proofs.Ytlcenopebgkjgaa
