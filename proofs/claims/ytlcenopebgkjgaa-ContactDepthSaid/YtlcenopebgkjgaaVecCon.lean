/-
  Package vec: the contracts of its functions, by named results; the fixed examples of its laws.
-/
import Derived.Test.YtlcenopebgkjgaaVecRef
import Derived.Test.YtlcenopebgkjgaaVecLen
namespace Go.Proofs.Ytlcenopebgkjgaa
open Go.RowKit Go.Lib

abbrev Lsq2 (a b t : Int) : Prop := ∀ w, Calls Try.prog 34 #[.int .i64 a, .int .i64 b] w fun e w' => e = .returned (.int .u64 t) ∧ w = w'
abbrev Len2 (a b n : Int) : Prop := ∀ w, Calls Try.prog 24 #[.int .i64 a, .int .i64 b] w fun e w' => e = .returned (.int .i64 n) ∧ w = w'
abbrev Uni2 (a b x y : Int) : Prop := ∀ w, Calls Try.prog 23 #[.int .i64 a, .int .i64 b] w fun e w' => e = .returned (.agg #[.int .i32 x, .int .i32 y]) ∧ Grown w w'
abbrev Rlsq2 (a b t : Int) : Prop := ∀ w, Calls Try.prog 40 #[.int .i64 a, .int .i64 b] w fun e w' => e = .returned (.int .u64 t) ∧ w = w'
abbrev Rlen2 (a b n : Int) : Prop := ∀ w, Calls Try.prog 28 #[.int .i64 a, .int .i64 b] w fun e w' => e = .returned (.int .i64 n) ∧ w = w'
abbrev Runi2 (a b x y : Int) : Prop := ∀ w, Calls Try.prog 27 #[.int .i64 a, .int .i64 b] w fun e w' => e = .returned (.agg #[.int .i32 x, .int .i32 y]) ∧ Grown w w'
abbrev Dff4 (a b c d x y : Int) : Prop := ∀ w, Calls Try.prog 32 #[.agg #[.int .i32 a, .int .i32 b], .agg #[.int .i32 c, .int .i32 d]] w fun e w' => e = .returned (.tuple #[.int .i64 x, .int .i64 y]) ∧ Grown w w'
theorem lsq2 {a b t : Int} (ha : InD a) (hb : InD b) (ht : lsq a b = t) : Lsq2 a b t := fun w => lengthsq_any a b t ha hb ht w
theorem len2 {a b n : Int} (ha : InD a) (hb : InD b) (hn : IsRoot n (lsq a b)) : Len2 a b n := fun w => length_any a b n ha hb (Lib.hid hn) w
theorem rlsq2 {a b t : Int} (ha : InD a) (hb : InD b) (ht : lsq a b = t) : Rlsq2 a b t := fun w => reflsq_any a b t ha hb ht w
theorem rlen2 {a b n : Int} (ha : InD a) (hb : InD b) (hn : IsRoot n (lsq a b)) : Rlen2 a b n := fun w => reflen_any a b n ha hb (Lib.hid hn) w

/-- The unit vector's components. -/
def ux (a n : Int) : Int := if n = 0 then 65536 else un a n
def uy (b n : Int) : Int := if n = 0 then 0 else un b n
theorem lsq_zero {a b : Int} (h : IsRoot 0 (lsq a b)) : a = 0 ∧ b = 0 := by
  have g := root_ge h
  exact ⟨by omega, by omega⟩
theorem uni2 {a b n x y : Int} (ha : InD a) (hb : InD b) (hn : IsRoot n (lsq a b)) (hx : ux a n = x) (hy : uy b n = y) : Uni2 a b x y := fun w => by
  by_cases c : n = 0
  · subst c
    have e1 : x = 65536 := by rw [← hx]; rfl
    have e2 : y = 0 := by rw [← hy]; rfl
    rw [e1, e2]
    exact unit_zero a b ha hb (Lib.hid hn) w
  · unfold ux at hx
    unfold uy at hy
    rw [if_neg c] at hx hy
    exact unit_pos a b n x y ha hb (by have := hn.1; omega) (Lib.hid hn) hx hy w
theorem runi2 {a b n x y : Int} (ha : InD a) (hb : InD b) (hn : IsRoot n (lsq a b)) (hx : ux a n = x) (hy : uy b n = y) : Runi2 a b x y := fun w => by
  by_cases c : n = 0
  · subst c
    have e1 : x = 65536 := by rw [← hx]; rfl
    have e2 : y = 0 := by rw [← hy]; rfl
    obtain ⟨rfl, rfl⟩ := lsq_zero hn
    rw [e1, e2]
    exact refunit_zero w
  · unfold ux at hx
    unfold uy at hy
    rw [if_neg c] at hx hy
    have hz : a ≠ 0 ∨ b ≠ 0 := by
      by_cases c1 : a = 0
      · refine .inr fun c2 => c ?_
        subst c1; subst c2
        exact hn.unique ⟨by decide, by decide, by decide⟩
      · exact .inl c1
    exact refunit_pos a b n x y ha hb (by have := hn.1; omega) hz (Lib.hid hn) hx hy w
theorem dff4 {a b c d x y : Int} (ha : I32 a) (hb : I32 b) (hc : I32 c) (hd : I32 d) (hx : c - a = x) (hy : d - b = y) : Dff4 a b c d x y := fun w => by rw [← hx, ← hy]; exact diff_any a b c d ha hb hc hd w
theorem ind (d : Int) (h1 : -2181038080 ≤ d := by decide) (h2 : d ≤ 2181038080 := by decide) : InD d := ⟨h1, h2⟩

end Go.Proofs.Ytlcenopebgkjgaa
