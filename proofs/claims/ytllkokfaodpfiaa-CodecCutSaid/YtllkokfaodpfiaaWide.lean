/-
  Package wide: magnitude, the negation of two words, and the quotient of magnitudes, by contracts on whole numbers.
-/
import Derived.Test.YtllkokfaodpfiaaProg
import Derived.WalkKit
import Derived.Lib.Mul64
import Derived.Laws.Bits64b
import Derived.Laws.Externs
import Derived.Lib.Strings
import Derived.Lib.Slices
import Derived.Lib.Small
import Derived.Lib.Walk
import Derived.Lib.BitFns
import Derived.Test.YtllkokfaodpfiaaDivArith
import Derived.Deep.QuietTactic
import Derived.BigQuiet
import Derived.RowKit3
import Derived.Lib.Hide
import Derived.Deep.DeepCutAuto
import Derived.Deep.CutRange
import Derived.Deep.CutBlock
namespace Go.Proofs.Ytllkokfaodpfiaa
open Go.RowKit Go.Lib

/-- A number of 64 bits with a sign. -/
def I64 (v : Int) : Prop := -9223372036854775808 ≤ v ∧ v < 9223372036854775808
instance (v : Int) : Decidable (I64 v) := inferInstanceAs (Decidable (_ ∧ _))
end Go.Proofs.Ytllkokfaodpfiaa
