/-
  Package vec: its functions on vectors, for all arguments.
-/
import Derived.Test.YtlcenopebgkjgaaVecEach
namespace Go.Proofs.Ytlcenopebgkjgaa
open Go.RowKit Go.Lib

theorem diff_any (a b c d : Int) (ha : I32 a) (hb : I32 b) (hc : I32 c) (hd : I32 d) (w : World) :
    Calls Try.prog 32 #[.agg #[.int .i32 a, .int .i32 b], .agg #[.int .i32 c, .int .i32 d]] w fun e w' => e = .returned (.tuple #[.int .i64 (c - a), .int .i64 (d - b)]) ∧ Grown w w' := by
  have C1 := Lib.hid (each_dif a b c d ha hb hc hd)
  go_enter Try.func32, Try.ntmps32
  go_wp2_with ((with_reducible refine (C1.out _).mono ?_); rintro e w1 ⟨rfl, g1⟩)
  go_ret2
  exact ⟨rfl, grown_trans (((Grown.refl _).alloc _ _).alloc _ _) g1⟩

end Go.Proofs.Ytlcenopebgkjgaa
