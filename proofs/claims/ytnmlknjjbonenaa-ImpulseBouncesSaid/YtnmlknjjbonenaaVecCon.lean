/-
  Package vec: the contracts of its functions, by named results; the fixed examples of its laws.
-/
import Derived.Test.YtnmlknjjbonenaaVec
import Derived.Test.YtnmlknjjbonenaaFxRef
namespace Go.Proofs.Ytnmlknjjbonenaa
open Go.RowKit Go.Lib

abbrev Dot4 (a b c d t : Int) : Prop := ∀ w, Calls Try.prog 20 #[.agg #[.int .i32 a, .int .i32 b], .agg #[.int .i32 c, .int .i32 d]] w fun e w' => e = .returned (.int .i64 t) ∧ Grown w w'
theorem dot4 {a b c d t : Int} (ha : I32 a) (hb : I32 b) (hc : I32 c) (hd : I32 d) (ht : a * c + b * d = t) (h1 : -9223372036854775808 ≤ t) (h2 : t < 9223372036854775808) : Dot4 a b c d t := fun w => dot_any a b c d ha hb hc hd t ht h1 h2 w
end Go.Proofs.Ytnmlknjjbonenaa
