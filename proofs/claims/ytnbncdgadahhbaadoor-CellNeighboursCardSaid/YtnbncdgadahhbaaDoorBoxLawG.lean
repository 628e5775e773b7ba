/-
  Package box: the law BoxGrows.
-/
import Derived.Test.YtnbncdgadahhbaaDoorBoxRef2
import Derived.Deep.DeepCutAuto
namespace Go.Proofs.YtnbncdgadahhbaaDoor
open Go.RowKit Go.Lib

theorem wr32b {n q : Int} (h : wrap32 n = q) : IntKind.i32.wrap n = q := by rw [← h, IntKind.wrap_i32]; unfold wrap32; rfl
end Go.Proofs.YtnbncdgadahhbaaDoor
