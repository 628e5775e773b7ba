/-
  Package vec: the contracts of its functions, by named results; the fixed examples of its laws.
-/
import Derived.Test.YtadbpfmgdjegoaaVecRef
import Derived.Test.YtadbpfmgdjegoaaVecLen
namespace Go.Proofs.Ytadbpfmgdjegoaa
open Go.RowKit Go.Lib

abbrev Lsq2 (a b t : Int) : Prop := ∀ w, Calls Try.prog 35 #[.int .i64 a, .int .i64 b] w fun e w' => e = .returned (.int .u64 t) ∧ w = w'
abbrev Rlsq2 (a b t : Int) : Prop := ∀ w, Calls Try.prog 25 #[.int .i64 a, .int .i64 b] w fun e w' => e = .returned (.int .u64 t) ∧ w = w'
abbrev Dff4 (a b c d x y : Int) : Prop := ∀ w, Calls Try.prog 30 #[.agg #[.int .i32 a, .int .i32 b], .agg #[.int .i32 c, .int .i32 d]] w fun e w' => e = .returned (.tuple #[.int .i64 x, .int .i64 y]) ∧ Grown w w'
theorem lsq2 {a b t : Int} (ha : InD a) (hb : InD b) (ht : lsq a b = t) : Lsq2 a b t := fun w => lengthsq_any a b t ha hb ht w
theorem rlsq2 {a b t : Int} (ha : InD a) (hb : InD b) (ht : lsq a b = t) : Rlsq2 a b t := fun w => reflsq_any a b t ha hb ht w
/-- The unit vector's components. -/
def ux (a n : Int) : Int := if n = 0 then 65536 else un a n
def uy (b n : Int) : Int := if n = 0 then 0 else un b n
theorem lsq_zero {a b : Int} (h : IsRoot 0 (lsq a b)) : a = 0 ∧ b = 0 := by
  have g := root_ge h
  exact ⟨by omega, by omega⟩
theorem dff4 {a b c d x y : Int} (ha : I32 a) (hb : I32 b) (hc : I32 c) (hd : I32 d) (hx : c - a = x) (hy : d - b = y) : Dff4 a b c d x y := fun w => by rw [← hx, ← hy]; exact diff_any a b c d ha hb hc hd w
theorem ind (d : Int) (h1 : -2181038080 ≤ d := by decide) (h2 : d ≤ 2181038080 := by decide) : InD d := ⟨h1, h2⟩

end Go.Proofs.Ytadbpfmgdjegoaa
