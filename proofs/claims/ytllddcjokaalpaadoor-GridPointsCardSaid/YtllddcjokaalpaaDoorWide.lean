/-
  Package wide: magnitude, the negation of two words, and the quotient of magnitudes, by contracts on whole numbers.
-/
import Derived.Test.YtllddcjokaalpaaDoorProg
import Derived.WalkKit
import Derived.Lib.Mul64
import Derived.Laws.Bits64b
import Derived.Laws.Externs
import Derived.Lib.Strings
import Derived.Lib.Slices
import Derived.Lib.Small
import Derived.Lib.Walk
import Derived.Lib.BitFns
import Derived.Test.YtllddcjokaalpaaDoorDivArith
import Derived.Deep.QuietTactic
import Derived.BigQuiet
import Derived.RowKit3
import Derived.Lib.Hide
import Derived.Deep.DeepCutAuto
import Derived.Deep.CutRange
import Derived.Deep.CutBlock
namespace Go.Proofs.YtllddcjokaalpaaDoor
open Go.RowKit Go.Lib

/-- A number of 64 bits with a sign. -/
def I64 (v : Int) : Prop := -9223372036854775808 ≤ v ∧ v < 9223372036854775808
instance (v : Int) : Decidable (I64 v) := inferInstanceAs (Decidable (_ ∧ _))
/-- The value that is returned for v: v where it is in range, 0 otherwise; and its error. -/
def rv (v : Int) : Int := if I64 v then v else 0
def qs (P c : Int) (neg : Bool) : Int := if neg then -((P + c - 1) / c) else P / c

end Go.Proofs.YtllddcjokaalpaaDoor
