/-
  Package contact: what the laws ask of the program.
-/
import Derived.Test.YtlcenopebgkjgaaConRef
import Derived.Test.YtlcenopebgkjgaaPointCon
import Derived.Deep.DeepCutAuto
namespace Go.Proofs.Ytlcenopebgkjgaa
open Go.RowKit Go.Lib

abbrev QOf (x y : Bd) (v : Ct) (z : Bool) : Prop := ∀ w, Calls Try.prog 10 #[.agg #[.int .u32 x.k, .int .i32 x.r, .int .i32 x.ax, .int .i32 x.ay, .int .i32 x.m, .int .i32 x.o, .int .i32 x.px, .int .i32 x.py, .int .i32 x.vx, .int .i32 x.vy], .agg #[.int .u32 y.k, .int .i32 y.r, .int .i32 y.ax, .int .i32 y.ay, .int .i32 y.m, .int .i32 y.o, .int .i32 y.px, .int .i32 y.py, .int .i32 y.vx, .int .i32 y.vy]] w fun e w' => e = .returned (.tuple #[.agg #[.int .u32 v.lo, .int .u32 v.hi, .int .i32 v.nx, .int .i32 v.ny, .int .i32 v.dp], .bool z]) ∧ Kep w.heap.size w w'
abbrev QTo (x y : Bd) (z : Bool) : Prop := ∀ w, Calls Try.prog 12 #[.agg #[.int .u32 x.k, .int .i32 x.r, .int .i32 x.ax, .int .i32 x.ay, .int .i32 x.m, .int .i32 x.o, .int .i32 x.px, .int .i32 x.py, .int .i32 x.vx, .int .i32 x.vy], .agg #[.int .u32 y.k, .int .i32 y.r, .int .i32 y.ax, .int .i32 y.ay, .int .i32 y.m, .int .i32 y.o, .int .i32 y.px, .int .i32 y.py, .int .i32 y.vx, .int .i32 y.vy]] w fun e w' => e = .returned (.bool z) ∧ Kep w.heap.size w w'
abbrev QGp (x y : Bd) (g : Int) : Prop := ∀ w, Calls Try.prog 13 #[.agg #[.int .u32 x.k, .int .i32 x.r, .int .i32 x.ax, .int .i32 x.ay, .int .i32 x.m, .int .i32 x.o, .int .i32 x.px, .int .i32 x.py, .int .i32 x.vx, .int .i32 x.vy], .agg #[.int .u32 y.k, .int .i32 y.r, .int .i32 y.ax, .int .i32 y.ay, .int .i32 y.m, .int .i32 y.o, .int .i32 y.px, .int .i32 y.py, .int .i32 y.vx, .int .i32 y.vy]] w fun e w' => e = .returned (.int .i64 g) ∧ Kep w.heap.size w w'
/-- What the laws ask of the program. -/
structure QOps : Prop where
  of_ : ∀ {x y : Bd}, okC x → okC y → x.k ≠ y.k → QOf x y (conV (lowB x y) (higB x y)) (tchB (lowB x y) (higB x y))
  touch : ∀ {x y : Bd}, okC x → okC y → x.k ≠ y.k → QTo x y (tchB (lowB x y) (higB x y))
  gap : ∀ {x y : Bd}, okC x → okC y → x.k ≠ y.k → QGp x y (gapC (lowB x y) (higB x y))
abbrev QAwake : Prop := ∀ w, Calls Try.prog 8 #[] w fun e w' => e = .returned (.bool true) ∧ Kep w.heap.size w w'
theorem ct_same (l h p q d : Int) (w : World) : (binOp .eql 32 (.agg #[.int .u32 l, .int .u32 h, .int .i32 p, .int .i32 q, .int .i32 d]) (.agg #[.int .u32 l, .int .u32 h, .int .i32 p, .int .i32 q, .int .i32 d])).run Try.prog w = .ok (.bool true) w := by simp [go_sem]
theorem ct_nsame (l h p q d : Int) (w : World) : (binOp .neq 32 (.agg #[.int .u32 l, .int .u32 h, .int .i32 p, .int .i32 q, .int .i32 d]) (.agg #[.int .u32 l, .int .u32 h, .int .i32 p, .int .i32 q, .int .i32 d])).run Try.prog w = .ok (.bool false) w := by simp [go_sem]
end Go.Proofs.Ytlcenopebgkjgaa
