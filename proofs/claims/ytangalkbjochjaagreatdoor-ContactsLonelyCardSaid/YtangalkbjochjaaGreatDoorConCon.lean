/-
  Package contact: what the laws ask of the program.
-/
import Derived.Test.YtangalkbjochjaaGreatDoorConRef
import Derived.Test.YtangalkbjochjaaGreatDoorJ20PointCon
import Derived.Deep.DeepCutAuto
namespace Go.Proofs.YtangalkbjochjaaGreatDoor
open Go.RowKit Go.Lib

abbrev QOf (x y : Bd) (v : Ct) (z : Bool) : Prop := ∀ w, Calls Tryz.prog 37 #[.agg #[.int .u32 x.k, .int .i32 x.r, .int .i32 x.ax, .int .i32 x.ay, .int .i32 x.m, .int .i32 x.o, .int .i32 x.px, .int .i32 x.py, .int .i32 x.vx, .int .i32 x.vy], .agg #[.int .u32 y.k, .int .i32 y.r, .int .i32 y.ax, .int .i32 y.ay, .int .i32 y.m, .int .i32 y.o, .int .i32 y.px, .int .i32 y.py, .int .i32 y.vx, .int .i32 y.vy]] w fun e w' => e = .returned (.tuple #[.agg #[.int .u32 v.lo, .int .u32 v.hi, .int .i32 v.nx, .int .i32 v.ny, .int .i32 v.dp], .bool z]) ∧ Kep w.heap.size w w'
theorem ct_same (l h p q d : Int) (w : World) : (binOp .eql 35 (.agg #[.int .u32 l, .int .u32 h, .int .i32 p, .int .i32 q, .int .i32 d]) (.agg #[.int .u32 l, .int .u32 h, .int .i32 p, .int .i32 q, .int .i32 d])).run Tryz.prog w = .ok (.bool true) w := by simp [go_sem]
theorem ct_nsame (l h p q d : Int) (w : World) : (binOp .neq 35 (.agg #[.int .u32 l, .int .u32 h, .int .i32 p, .int .i32 q, .int .i32 d]) (.agg #[.int .u32 l, .int .u32 h, .int .i32 p, .int .i32 q, .int .i32 d])).run Tryz.prog w = .ok (.bool false) w := by simp [go_sem]
end Go.Proofs.YtangalkbjochjaaGreatDoor
