import Derived.Test.YtaknmlohnifcdaaGreatDoorJ17MRefMul
import Derived.Deep.DeepCutAuto
namespace Go.Proofs.YtaknmlohnifcdaaGreatDoor
open Go.RowKit Go.Lib

abbrev IAp (lo hi nx ny dp : Int) (x y : Bd) (t : Int) : Prop := ∀ w, Calls Tryz.prog 158 #[.agg #[.int .u32 lo, .int .u32 hi, .int .i32 nx, .int .i32 ny, .int .i32 dp], .agg #[.int .u32 x.k, .int .i32 x.r, .int .i32 x.ax, .int .i32 x.ay, .int .i32 x.m, .int .i32 x.o, .int .i32 x.px, .int .i32 x.py, .int .i32 x.vx, .int .i32 x.vy], .agg #[.int .u32 y.k, .int .i32 y.r, .int .i32 y.ax, .int .i32 y.ay, .int .i32 y.m, .int .i32 y.o, .int .i32 y.px, .int .i32 y.py, .int .i32 y.vx, .int .i32 y.vy]] w fun e w' => e = .returned (.int .i64 t) ∧ Kep w.heap.size w w'
abbrev IBn (x y : Bd) (t : Int) : Prop := ∀ w, Calls Tryz.prog 159 #[.agg #[.int .u32 x.k, .int .i32 x.r, .int .i32 x.ax, .int .i32 x.ay, .int .i32 x.m, .int .i32 x.o, .int .i32 x.px, .int .i32 x.py, .int .i32 x.vx, .int .i32 x.vy], .agg #[.int .u32 y.k, .int .i32 y.r, .int .i32 y.ax, .int .i32 y.ay, .int .i32 y.m, .int .i32 y.o, .int .i32 y.px, .int .i32 y.py, .int .i32 y.vx, .int .i32 y.vy]] w fun e w' => e = .returned (.int .i32 t) ∧ Kep w.heap.size w w'
abbrev ISt (lo hi nx ny dp : Int) (x y : Bd) (t : Int) : Prop := ∀ w, Calls Tryz.prog 125 #[.agg #[.int .u32 lo, .int .u32 hi, .int .i32 nx, .int .i32 ny, .int .i32 dp], .agg #[.int .u32 x.k, .int .i32 x.r, .int .i32 x.ax, .int .i32 x.ay, .int .i32 x.m, .int .i32 x.o, .int .i32 x.px, .int .i32 x.py, .int .i32 x.vx, .int .i32 x.vy], .agg #[.int .u32 y.k, .int .i32 y.r, .int .i32 y.ax, .int .i32 y.ay, .int .i32 y.m, .int .i32 y.o, .int .i32 y.px, .int .i32 y.py, .int .i32 y.vx, .int .i32 y.vy]] w fun e w' => e = .returned (.int .i64 t) ∧ Kep w.heap.size w w'
abbrev ICh (j i nx ny p q : Int) : Prop := ∀ w, Calls Tryz.prog 160 #[.int .i64 j, .int .i32 i, .agg #[.int .i32 nx, .int .i32 ny]] w fun e w' => e = .returned (.tuple #[.int .i64 p, .int .i64 q]) ∧ Kep w.heap.size w w'
theorem Vb.of {x : Bd} (h : okI x) : Vb x := vb_of h
end Go.Proofs.YtaknmlohnifcdaaGreatDoor
