/-
  Package vec: the contracts of its functions, by named results; the fixed examples of its laws.
-/
import Derived.Test.YtohkacgmdboknaaVecRef
import Derived.Test.YtohkacgmdboknaaVecArith
namespace Go.Proofs.Ytohkacgmdboknaa
open Go.RowKit Go.Lib

abbrev Lsq2 (a b t : Int) : Prop := ∀ w, Calls Try.prog 22 #[.int .i64 a, .int .i64 b] w fun e w' => e = .returned (.int .u64 t) ∧ w = w'
abbrev Len2 (a b n : Int) : Prop := ∀ w, Calls Try.prog 24 #[.int .i64 a, .int .i64 b] w fun e w' => e = .returned (.int .i64 n) ∧ w = w'
abbrev Uni2 (a b x y : Int) : Prop := ∀ w, Calls Try.prog 26 #[.int .i64 a, .int .i64 b] w fun e w' => e = .returned (.agg #[.int .i32 x, .int .i32 y]) ∧ Grown w w'
abbrev Rlsq2 (a b t : Int) : Prop := ∀ w, Calls Try.prog 23 #[.int .i64 a, .int .i64 b] w fun e w' => e = .returned (.int .u64 t) ∧ w = w'
abbrev Rlen2 (a b n : Int) : Prop := ∀ w, Calls Try.prog 25 #[.int .i64 a, .int .i64 b] w fun e w' => e = .returned (.int .i64 n) ∧ w = w'
abbrev Runi2 (a b x y : Int) : Prop := ∀ w, Calls Try.prog 27 #[.int .i64 a, .int .i64 b] w fun e w' => e = .returned (.agg #[.int .i32 x, .int .i32 y]) ∧ Grown w w'
abbrev Dot4 (a b c d t : Int) : Prop := ∀ w, Calls Try.prog 19 #[.agg #[.int .i32 a, .int .i32 b], .agg #[.int .i32 c, .int .i32 d]] w fun e w' => e = .returned (.int .i64 t) ∧ Grown w w'
abbrev Cro4 (a b c d t : Int) : Prop := ∀ w, Calls Try.prog 20 #[.agg #[.int .i32 a, .int .i32 b], .agg #[.int .i32 c, .int .i32 d]] w fun e w' => e = .returned (.int .i64 t) ∧ Grown w w'
abbrev Dff4 (a b c d x y : Int) : Prop := ∀ w, Calls Try.prog 18 #[.agg #[.int .i32 a, .int .i32 b], .agg #[.int .i32 c, .int .i32 d]] w fun e w' => e = .returned (.tuple #[.int .i64 x, .int .i64 y]) ∧ Grown w w'
abbrev Vad4 (a b c d x y : Int) : Prop := ∀ w, Calls Try.prog 11 #[.agg #[.int .i32 a, .int .i32 b], .agg #[.int .i32 c, .int .i32 d]] w fun e w' => e = .returned (.agg #[.int .i32 x, .int .i32 y]) ∧ Grown w w'
abbrev Vsu4 (a b c d x y : Int) : Prop := ∀ w, Calls Try.prog 13 #[.agg #[.int .i32 a, .int .i32 b], .agg #[.int .i32 c, .int .i32 d]] w fun e w' => e = .returned (.agg #[.int .i32 x, .int .i32 y]) ∧ Grown w w'
abbrev Vsc3 (a b k x y : Int) : Prop := ∀ w, Calls Try.prog 15 #[.agg #[.int .i32 a, .int .i32 b], .int .i32 k] w fun e w' => e = .returned (.agg #[.int .i32 x, .int .i32 y]) ∧ Grown w w'
abbrev Vne2 (a b x y : Int) : Prop := ∀ w, Calls Try.prog 14 #[.agg #[.int .i32 a, .int .i32 b]] w fun e w' => e = .returned (.agg #[.int .i32 x, .int .i32 y]) ∧ Grown w w'
abbrev Per2 (a b x y : Int) : Prop := ∀ w, Calls Try.prog 17 #[.agg #[.int .i32 a, .int .i32 b]] w fun e w' => e = .returned (.agg #[.int .i32 x, .int .i32 y]) ∧ Grown w w'
abbrev Rad4 (a b c d x y : Int) : Prop := ∀ w, Calls Try.prog 12 #[.agg #[.int .i32 a, .int .i32 b], .agg #[.int .i32 c, .int .i32 d]] w fun e w' => e = .returned (.agg #[.int .i32 x, .int .i32 y]) ∧ Grown w w'
abbrev Rsc3 (a b k x y : Int) : Prop := ∀ w, Calls Try.prog 16 #[.agg #[.int .i32 a, .int .i32 b], .int .i32 k] w fun e w' => e = .returned (.agg #[.int .i32 x, .int .i32 y]) ∧ Grown w w'
abbrev Rne2 (a b x y : Int) : Prop := ∀ w, Calls Try.prog 9 #[.agg #[.int .i32 a, .int .i32 b]] w fun e w' => e = .returned (.agg #[.int .i32 x, .int .i32 y]) ∧ Grown w w'
abbrev In1 (d : Int) (b : Bool) : Prop := ∀ w, Calls Try.prog 21 #[.int .i64 d] w fun e w' => e = .returned (.bool b) ∧ w = w'
abbrev Awake : Prop := ∀ w, Calls Try.prog 8 #[] w fun e w' => e = .returned (.bool true) ∧ Grown w w'

theorem lsq2 {a b t : Int} (ha : InD a) (hb : InD b) (ht : lsq a b = t) : Lsq2 a b t := fun w => lengthsq_any a b t ha hb ht w
theorem len2 {a b n : Int} (ha : InD a) (hb : InD b) (hn : IsRoot n (lsq a b)) : Len2 a b n := fun w => length_any a b n ha hb (Lib.hid hn) w
theorem rlsq2 {a b t : Int} (ha : InD a) (hb : InD b) (ht : lsq a b = t) : Rlsq2 a b t := fun w => reflsq_any a b t ha hb ht w
theorem rlen2 {a b n : Int} (ha : InD a) (hb : InD b) (hn : IsRoot n (lsq a b)) : Rlen2 a b n := fun w => reflen_any a b n ha hb (Lib.hid hn) w

/-- The unit vector's components. -/
def ux (a n : Int) : Int := if n = 0 then 65536 else un a n
def uy (b n : Int) : Int := if n = 0 then 0 else un b n
theorem lsq_zero {a b : Int} (h : IsRoot 0 (lsq a b)) : a = 0 ∧ b = 0 := by
  have g := root_ge h
  exact ⟨by omega, by omega⟩
theorem uni2 {a b n x y : Int} (ha : InD a) (hb : InD b) (hn : IsRoot n (lsq a b)) (hx : ux a n = x) (hy : uy b n = y) : Uni2 a b x y := fun w => by
  by_cases c : n = 0
  · subst c
    have e1 : x = 65536 := by rw [← hx]; rfl
    have e2 : y = 0 := by rw [← hy]; rfl
    rw [e1, e2]
    exact unit_zero a b ha hb (Lib.hid hn) w
  · unfold ux at hx
    unfold uy at hy
    rw [if_neg c] at hx hy
    exact unit_pos a b n x y ha hb (by have := hn.1; omega) (Lib.hid hn) hx hy w
theorem runi2 {a b n x y : Int} (ha : InD a) (hb : InD b) (hn : IsRoot n (lsq a b)) (hx : ux a n = x) (hy : uy b n = y) : Runi2 a b x y := fun w => by
  by_cases c : n = 0
  · subst c
    have e1 : x = 65536 := by rw [← hx]; rfl
    have e2 : y = 0 := by rw [← hy]; rfl
    obtain ⟨rfl, rfl⟩ := lsq_zero hn
    rw [e1, e2]
    exact refunit_zero w
  · unfold ux at hx
    unfold uy at hy
    rw [if_neg c] at hx hy
    have hz : a ≠ 0 ∨ b ≠ 0 := by
      by_cases c1 : a = 0
      · refine .inr fun c2 => c ?_
        subst c1; subst c2
        exact hn.unique ⟨by decide, by decide, by decide⟩
      · exact .inl c1
    exact refunit_pos a b n x y ha hb (by have := hn.1; omega) hz (Lib.hid hn) hx hy w
theorem dot4 {a b c d t : Int} (ha : I32 a) (hb : I32 b) (hc : I32 c) (hd : I32 d) (ht : a * c + b * d = t) (h1 : -9223372036854775808 ≤ t) (h2 : t < 9223372036854775808) : Dot4 a b c d t := fun w => dot_any a b c d ha hb hc hd t ht h1 h2 w
theorem cro4 {a b c d t : Int} (ha : I32 a) (hb : I32 b) (hc : I32 c) (hd : I32 d) (ht : a * d - b * c = t) (h1 : -9223372036854775808 ≤ t) (h2 : t < 9223372036854775808) : Cro4 a b c d t := fun w => cross_any a b c d ha hb hc hd t ht h1 h2 w
theorem dff4 {a b c d x y : Int} (ha : I32 a) (hb : I32 b) (hc : I32 c) (hd : I32 d) (hx : c - a = x) (hy : d - b = y) : Dff4 a b c d x y := fun w => by rw [← hx, ← hy]; exact diff_any a b c d ha hb hc hd w
theorem vad4 {a b c d x y : Int} (ha : I32 a) (hb : I32 b) (hc : I32 c) (hd : I32 d) (hx : sat (a + c) = x) (hy : sat (b + d) = y) : Vad4 a b c d x y := fun w => by rw [← hx, ← hy]; exact vecadd_any a b c d ha hb hc hd w
theorem vsu4 {a b c d x y : Int} (ha : I32 a) (hb : I32 b) (hc : I32 c) (hd : I32 d) (hx : sat (a - c) = x) (hy : sat (b - d) = y) : Vsu4 a b c d x y := fun w => by rw [← hx, ← hy]; exact vecsub_any a b c d ha hb hc hd w
theorem rad4 {a b c d x y : Int} (ha : I32 a) (hb : I32 b) (hc : I32 c) (hd : I32 d) (hx : sat (a + c) = x) (hy : sat (b + d) = y) : Rad4 a b c d x y := fun w => by rw [← hx, ← hy]; exact refvadd_any a b c d ha hb hc hd w
theorem vsc3 {a b k x y : Int} (ha : I32 a) (hb : I32 b) (hk : I32 k) (hx : sat (a * k / 65536) = x) (hy : sat (b * k / 65536) = y) : Vsc3 a b k x y := fun w => by rw [← hx, ← hy]; exact vecscale_any a b k ha hb hk w
theorem rsc3 {a b k x y : Int} (ha : I32 a) (hb : I32 b) (hk : I32 k) (hx : sat (a * k / 65536) = x) (hy : sat (b * k / 65536) = y) : Rsc3 a b k x y := fun w => by rw [← hx, ← hy]; exact refscale_any a b k ha hb hk w
theorem vne2 {a b x y : Int} (ha : I32 a) (hb : I32 b) (hx : sat (-a) = x) (hy : sat (-b) = y) : Vne2 a b x y := fun w => by rw [← hx, ← hy, ← Int.zero_sub, ← Int.zero_sub]; exact vecneg_any a b ha hb w
theorem rne2 {a b x y : Int} (ha : I32 a) (hb : I32 b) (hx : sat (-a) = x) (hy : sat (-b) = y) : Rne2 a b x y := fun w => by rw [← hx, ← hy]; exact refvneg_any a b ha hb w
theorem per2 {a b x : Int} (hb : I32 b) (hx : sat (-b) = x) : Per2 a b x a := fun w => by rw [← hx]; exact perp_any a b hb w
theorem in1 {d : Int} (h : InD d) : In1 d true := fun w => in_any d true (by obtain ⟨h1, h2⟩ := h; simp [h1, h2]) w
theorem in0 {d : Int} (h : ¬ InD d) : In1 d false := fun w => in_any d false (by
  by_cases c1 : -2181038080 ≤ d
  · have c2 : ¬ d ≤ 2181038080 := fun c2 => h ⟨c1, c2⟩
    simp [c2]
  · simp [c1]) w
theorem ind (d : Int) (h1 : -2181038080 ≤ d := by decide) (h2 : d ≤ 2181038080 := by decide) : InD d := ⟨h1, h2⟩

set_option maxRecDepth 100000 in
set_option maxHeartbeats 4000000 in
theorem awake_any : Awake := fun w => by
  have C1 := Lib.hid (dff4 (a := -2147483648) (b := 0) (c := 2147483647) (d := 1) (ik32 _) (ik32 _) (ik32 _) (ik32 _) (show _ = 4294967295 from rfl) (show _ = 1 from rfl))
  have C2 := Lib.hid (len2 (n := 5) (ind 3) (ind 4) ⟨by decide, by decide, by decide⟩)
  have C3 := Lib.hid (uni2 (n := 5) (x := 39321) (y := 52428) (ind 3) (ind 4) ⟨by decide, by decide, by decide⟩ (by decide) (by decide))
  have C4 := Lib.hid (uni2 (n := 0) (x := 65536) (y := 0) (ind 0) (ind 0) ⟨by decide, by decide, by decide⟩ (by decide) (by decide))
  have C5 := Lib.hid (dot4 (a := 3) (b := 4) (c := 3) (d := 4) (t := 25) (ik32 _) (ik32 _) (ik32 _) (ik32 _) (by decide) (by decide) (by decide))
  have C6 := Lib.hid (cro4 (a := 3) (b := 4) (c := 1) (d := 0) (t := -4) (ik32 _) (ik32 _) (ik32 _) (ik32 _) (by decide) (by decide) (by decide))
  have C7 := Lib.hid (per2 (a := 3) (b := 4) (x := -4) (ik32 _) (by decide))
  go_enter Try.func8, Try.ntmps8
  go_wp2_with (first
    | ((with_reducible refine (C1.out _).mono ?_); rintro e w1 ⟨rfl, g1⟩
       have k0 := kept_cell g1 (b := w.heap.size) (o := 0) (v := .int .i32 3) (by rw [World.cell?_alloc_at _ _ _ _ rfl]; rfl)
       have k1 := kept_cell g1 (b := w.heap.size) (o := 1) (v := .int .i32 4) (by rw [World.cell?_alloc_at _ _ _ _ rfl]; rfl))
    | ((with_reducible refine (C2.out _).mono ?_); rintro e w' ⟨rfl, rfl⟩)
    | ((with_reducible refine (C3.out _).mono ?_); rintro e w2 ⟨rfl, g2⟩; replace k0 := kept_cell g2 k0; replace k1 := kept_cell g2 k1)
    | ((with_reducible refine (C4.out _).mono ?_); rintro e w3 ⟨rfl, g3⟩; replace k0 := kept_cell g3 k0; replace k1 := kept_cell g3 k1)
    | ((with_reducible refine (C5.out _).mono ?_); rintro e w4 ⟨rfl, g4⟩; replace k0 := kept_cell g4 k0; replace k1 := kept_cell g4 k1)
    | ((with_reducible refine (C6.out _).mono ?_); rintro e w5 ⟨rfl, g5⟩; replace k0 := kept_cell g5 k0; replace k1 := kept_cell g5 k1)
    | ((with_reducible refine (C7.out _).mono ?_); rintro e w6 ⟨rfl, g6⟩; replace k0 := kept_cell g6 k0; replace k1 := kept_cell g6 k1))
  go_ret
  exact ⟨rfl, grown_trans (grown_trans (grown_trans (grown_trans (grown_trans (grown_trans ((Grown.refl _).alloc _ _) g1) g2) g3) g4) g5) g6⟩
end Go.Proofs.Ytohkacgmdboknaa
