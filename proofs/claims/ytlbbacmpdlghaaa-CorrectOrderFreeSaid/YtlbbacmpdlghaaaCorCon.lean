/-
  Package correct: what the laws ask of the program.
-/
import Derived.Test.YtlbbacmpdlghaaaCorRef2
import Derived.Test.YtlbbacmpdlghaaaJ08PairsRef2
import Derived.Test.YtlbbacmpdlghaaaCtSlice
import Derived.Test.YtlbbacmpdlghaaaJ03StorePut
import Derived.Deep.DeepCutAuto
namespace Go.Proofs.Ytlbbacmpdlghaaa
open Go.RowKit Go.Lib

abbrev CAm (lo hi nx ny dp : Int) (x y : Bd) (t : Int) : Prop := ∀ w, Calls Try.prog 12 #[.agg #[.int .u32 lo, .int .u32 hi, .int .i32 nx, .int .i32 ny, .int .i32 dp], .agg #[.int .u32 x.k, .int .i32 x.r, .int .i32 x.ax, .int .i32 x.ay, .int .i32 x.m, .int .i32 x.o, .int .i32 x.px, .int .i32 x.py, .int .i32 x.vx, .int .i32 x.vy], .agg #[.int .u32 y.k, .int .i32 y.r, .int .i32 y.ax, .int .i32 y.ay, .int .i32 y.m, .int .i32 y.o, .int .i32 y.px, .int .i32 y.py, .int .i32 y.vx, .int .i32 y.vy]] w fun e w' => e = .returned (.int .i64 t) ∧ Kep w.heap.size w w'
abbrev CSh (lo hi nx ny dp : Int) (x y : Bd) (z : Bool) (t : Int) : Prop := ∀ w, Calls Try.prog 14 #[.agg #[.int .u32 lo, .int .u32 hi, .int .i32 nx, .int .i32 ny, .int .i32 dp], .agg #[.int .u32 x.k, .int .i32 x.r, .int .i32 x.ax, .int .i32 x.ay, .int .i32 x.m, .int .i32 x.o, .int .i32 x.px, .int .i32 x.py, .int .i32 x.vx, .int .i32 x.vy], .agg #[.int .u32 y.k, .int .i32 y.r, .int .i32 y.ax, .int .i32 y.ay, .int .i32 y.m, .int .i32 y.o, .int .i32 y.px, .int .i32 y.py, .int .i32 y.vx, .int .i32 y.vy], .bool z] w fun e w' => e = .returned (.int .i64 t) ∧ Kep w.heap.size w w'
/-- What P18 asks of a view and its contacts. -/
structure SArg (L : List Bd) (C : List Ct) : Prop where
  vw : Vw L
  few : C.length ≤ 100
  rg : ∀ c ∈ C, RsC L c
theorem SArg.vb {L : List Bd} {C : List Ct} (h : SArg L C) : ∀ x ∈ L, Vb x := fun x hx => vb_of (h.vw.ok x hx)
theorem sarg {L : List Bd} {C : List Ct} (h : Vw L) (hr : rgtS L C = true) : SArg L C := ⟨h, (rgtS_iff.1 hr).1, (rgtS_iff.1 hr).2⟩
abbrev CSf : Prop := ∀ v L l C w, Lst w v L → Sq ctv 5 w l C → SArg L C → Calls Try.prog 18 #[v, l] w fun e w' => ∃ v', e = .returned v' ∧ (Sq shv 2 w' v' (shfL L C) ∧ Rmy v') ∧ Kep w.heap.size w w'
/-- What the laws ask of the program. -/
structure SOps : Prop where
  amt : ∀ {lo hi nx ny dp : Int} {x y : Bd}, Vb x → Vb y → Dp dp → CAm lo hi nx ny dp x y (amI dp x y)
  shr : ∀ {lo hi nx ny dp : Int} {x y : Bd} (z : Bool), Vb x → Vb y → Dp dp → CSh lo hi nx ny dp x y z (shI dp x y (if z = true then y.m else x.m))
  shf : CSf
abbrev SAwake : Prop := ∀ w, Calls Try.prog 9 #[] w fun e w' => e = .returned (.bool true) ∧ Kep w.heap.size w w'
/-- The reference's check of a body. -/
abbrev KCk (x : Bd) (c : Int) : Prop := ∀ w, Calls Try.prog 20 #[.agg #[.int .u32 x.k, .int .i32 x.r, .int .i32 x.ax, .int .i32 x.ay, .int .i32 x.m, .int .i32 x.o, .int .i32 x.px, .int .i32 x.py, .int .i32 x.vx, .int .i32 x.vy]] w fun e w' => e = .returned (.int .i64 c) ∧ Kep w.heap.size w w'
theorem kckS (x : Bd) : KCk x (chk x.r x.ax x.ay x.m x.o x.px x.py x.vx x.vy) := fun w => kep_calls (rck x.k x.r x.ax x.ay x.m x.o x.px x.py x.vx x.vy _ rfl w)
end Go.Proofs.Ytlbbacmpdlghaaa
