/-
  Package vec: its functions on vectors, for all arguments.
-/
import Derived.Test.YtnmlknjjbonenaaVecEach
namespace Go.Proofs.Ytnmlknjjbonenaa
open Go.RowKit Go.Lib

theorem dot_any (a b c d : Int) (ha : I32 a) (hb : I32 b) (hc : I32 c) (hd : I32 d) (t : Int) (ht : a * c + b * d = t) (h1 : -9223372036854775808 ≤ t) (h2 : t < 9223372036854775808) (w : World) :
    Calls Try.prog 20 #[.agg #[.int .i32 a, .int .i32 b], .agg #[.int .i32 c, .int .i32 d]] w fun e w' => e = .returned (.int .i64 t) ∧ Grown w w' := by
  have C1 := Lib.hid (each_pro a b c d ha hb hc hd)
  have m1 := mul32 ha hc
  have m2 := mul32 hb hd
  obtain ⟨x, hx⟩ : ∃ x, x = a * c := ⟨_, rfl⟩
  obtain ⟨y, hy⟩ : ∃ y, y = b * d := ⟨_, rfl⟩
  rw [← hx, ← hy] at C1 ht
  rw [← hx] at m1
  rw [← hy] at m2
  clear hx hy
  have f1 : IntKind.i64.wrap (x + y) = t := by rw [IntKind.wrap_i64]; omega
  have f2 : wrap64 (x + y) = t := by unfold wrap64; omega
  clear m1 m2
  go_enter Try.func20, Try.ntmps20
  go_wp2_with ((with_reducible refine (C1.out _).mono ?_); rintro e w1 ⟨rfl, g1⟩)
  go_ret
  exact ⟨rfl, grown_trans (((Grown.refl _).alloc _ _).alloc _ _) g1⟩

end Go.Proofs.Ytnmlknjjbonenaa
