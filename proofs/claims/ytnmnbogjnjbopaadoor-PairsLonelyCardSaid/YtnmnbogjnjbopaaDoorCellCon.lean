/-
  Package cell: contracts of its functions, what the laws ask of the program.
-/
import Derived.Test.YtnmnbogjnjbopaaDoorCellAll
import Derived.Test.YtnmnbogjnjbopaaDoorFac
import Derived.Deep.DeepCutAuto
namespace Go.Proofs.YtnmnbogjnjbopaaDoor
open Go.RowKit Go.Lib

abbrev KCt (xa ya za ta c : Int) : Prop := ∀ w, Calls Tryd.prog 38 #[.agg #[.int .i32 xa, .int .i32 ya, .int .i32 za, .int .i32 ta]] w fun e w' => e = .returned (.int .i64 c) ∧ Kep w.heap.size w w'
abbrev In3 (n : Int) : Prop := -2147483648 ≤ n ∧ n < 2147483648
end Go.Proofs.YtnmnbogjnjbopaaDoor
