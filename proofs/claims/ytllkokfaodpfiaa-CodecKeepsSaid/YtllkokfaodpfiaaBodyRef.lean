/-
  Package body: its slow reference.
-/
import Derived.Test.YtllkokfaodpfiaaGrown
import Derived.Deep.DeepCutAuto
namespace Go.Proofs.Ytllkokfaodpfiaa
open Go.RowKit Go.Lib

/-- The error that a body has, 0 if none. -/
def chk (r ax ay m o px py vx vy : Int) : Int :=
  if 4096 ≤ r ∧ r ≤ 4194304 then
    if (-4194304 ≤ ax ∧ ax ≤ 4194304) ∧ (-4194304 ≤ ay ∧ ay ≤ 4194304) then
      if 0 ≤ m ∧ m ≤ 1048576 then
        if 0 ≤ o ∧ o ≤ 65536 then
          if (-1073741824 ≤ px ∧ px ≤ 1073741824) ∧ (-1073741824 ≤ py ∧ py ≤ 1073741824) then
            if (-16777216 ≤ vx ∧ vx ≤ 16777216) ∧ (-16777216 ≤ vy ∧ vy ≤ 16777216) then 0 else 9
          else 8
        else 7
      else 6
    else 5
  else 4
abbrev RIn (n l : Int) (c : Bool) : Prop := ∀ w, Calls Try.prog 34 #[.int .i32 n, .int .i32 l] w fun e w' => e = .returned (.bool c) ∧ w = w'
abbrev Rck (k r ax ay m o px py vx vy c : Int) : Prop := ∀ w, Calls Try.prog 32 #[.agg #[.int .u32 k, .int .i32 r, .int .i32 ax, .int .i32 ay, .int .i32 m, .int .i32 o, .int .i32 px, .int .i32 py, .int .i32 vx, .int .i32 vy]] w fun e w' => e = .returned (.int .i64 c) ∧ Grown w w'

theorem rin {n l : Int} {c : Bool} (h1 : 0 ≤ l) (h2 : l < 2147483648) (hc : decide (-l ≤ n ∧ n ≤ l) = c) : RIn n l c := fun w => by
  have e1 : IntKind.i32.wrap (-l) = -l := by rw [IntKind.wrap_i32]; omega
  have e2 : wrap32 (-l) = -l := by unfold wrap32; omega
  by_cases g1 : -l ≤ n
  · by_cases g2 : n ≤ l
    · obtain rfl : true = c := by rw [← hc, decide_eq_true (And.intro g1 g2)]
      clear hc
      go_enter Try.func34, Try.ntmps34
      go_wp2
      go_ret
      exact ⟨rfl, rfl⟩
    · obtain rfl : false = c := by rw [← hc, decide_eq_false (fun h => g2 h.2)]
      clear hc
      go_enter Try.func34, Try.ntmps34
      go_wp2
      go_ret
      exact ⟨rfl, rfl⟩
  · obtain rfl : false = c := by rw [← hc, decide_eq_false (fun h => g1 h.1)]
    clear hc
    go_enter Try.func34, Try.ntmps34
    go_wp2
    go_ret
    exact ⟨rfl, rfl⟩
theorem ret_i64 {a b : Int} (h : a = b) : Ending.returned (.int .i64 a) = Ending.returned (.int .i64 b) := by rw [h]
set_option maxRecDepth 100000 in
set_option maxHeartbeats 8000000 in
theorem rck (k r ax ay m o px py vx vy c : Int) (hc : chk r ax ay m o px py vx vy = c) : Rck k r ax ay m o px py vx vy c := fun w => by
  by_cases g0 : r < 4096
  · have HC : Hid (c = 4) := Lib.hid (by rw [← hc]; unfold chk; repeat (first | rw [if_pos (by omega)] | rw [if_neg (by omega)]))
    clear hc
    go_enter Try.func32, Try.ntmps32
    go_wp2
    go_ret
    exact ⟨ret_i64 HC.out.symm, (Grown.refl _).alloc _ _⟩
  by_cases g1 : 4194304 < r
  · have HC : Hid (c = 4) := Lib.hid (by rw [← hc]; unfold chk; repeat (first | rw [if_pos (by omega)] | rw [if_neg (by omega)]))
    clear hc
    go_enter Try.func32, Try.ntmps32
    go_wp2
    go_ret
    exact ⟨ret_i64 HC.out.symm, (Grown.refl _).alloc _ _⟩
  by_cases g2 : ¬ (-4194304 ≤ ax ∧ ax ≤ 4194304)
  · have Jax := Lib.hid (rin (n := ax) (l := 4194304) (c := false) (by decide) (by decide) (decide_eq_false g2))
    have HC : Hid (c = 5) := Lib.hid (by rw [← hc]; unfold chk; repeat (first | rw [if_pos (by omega)] | rw [if_neg (by omega)]))
    clear hc
    go_enter Try.func32, Try.ntmps32
    go_wp2_with (first
      | ((with_reducible refine (Jax.out _).mono ?_); rintro e w' ⟨rfl, rfl⟩))
    go_ret
    exact ⟨ret_i64 HC.out.symm, (Grown.refl _).alloc _ _⟩
  replace g2 := Decidable.not_not.1 g2
  have Jax := Lib.hid (rin (n := ax) (l := 4194304) (c := true) (by decide) (by decide) (decide_eq_true g2))
  by_cases g3 : ¬ (-4194304 ≤ ay ∧ ay ≤ 4194304)
  · have Jay := Lib.hid (rin (n := ay) (l := 4194304) (c := false) (by decide) (by decide) (decide_eq_false g3))
    have HC : Hid (c = 5) := Lib.hid (by rw [← hc]; unfold chk; repeat (first | rw [if_pos (by omega)] | rw [if_neg (by omega)]))
    clear hc
    go_enter Try.func32, Try.ntmps32
    go_wp2_with (first
      | ((with_reducible refine (Jax.out _).mono ?_); rintro e w' ⟨rfl, rfl⟩)
      | ((with_reducible refine (Jay.out _).mono ?_); rintro e w' ⟨rfl, rfl⟩))
    go_ret
    exact ⟨ret_i64 HC.out.symm, (Grown.refl _).alloc _ _⟩
  replace g3 := Decidable.not_not.1 g3
  have Jay := Lib.hid (rin (n := ay) (l := 4194304) (c := true) (by decide) (by decide) (decide_eq_true g3))
  by_cases g4 : m < 0
  · have HC : Hid (c = 6) := Lib.hid (by rw [← hc]; unfold chk; repeat (first | rw [if_pos (by omega)] | rw [if_neg (by omega)]))
    clear hc
    go_enter Try.func32, Try.ntmps32
    go_wp2_with (first
      | ((with_reducible refine (Jax.out _).mono ?_); rintro e w' ⟨rfl, rfl⟩)
      | ((with_reducible refine (Jay.out _).mono ?_); rintro e w' ⟨rfl, rfl⟩))
    go_ret
    exact ⟨ret_i64 HC.out.symm, (Grown.refl _).alloc _ _⟩
  by_cases g5 : 1048576 < m
  · have HC : Hid (c = 6) := Lib.hid (by rw [← hc]; unfold chk; repeat (first | rw [if_pos (by omega)] | rw [if_neg (by omega)]))
    clear hc
    go_enter Try.func32, Try.ntmps32
    go_wp2_with (first
      | ((with_reducible refine (Jax.out _).mono ?_); rintro e w' ⟨rfl, rfl⟩)
      | ((with_reducible refine (Jay.out _).mono ?_); rintro e w' ⟨rfl, rfl⟩))
    go_ret
    exact ⟨ret_i64 HC.out.symm, (Grown.refl _).alloc _ _⟩
  by_cases g6 : o < 0
  · have HC : Hid (c = 7) := Lib.hid (by rw [← hc]; unfold chk; repeat (first | rw [if_pos (by omega)] | rw [if_neg (by omega)]))
    clear hc
    go_enter Try.func32, Try.ntmps32
    go_wp2_with (first
      | ((with_reducible refine (Jax.out _).mono ?_); rintro e w' ⟨rfl, rfl⟩)
      | ((with_reducible refine (Jay.out _).mono ?_); rintro e w' ⟨rfl, rfl⟩))
    go_ret
    exact ⟨ret_i64 HC.out.symm, (Grown.refl _).alloc _ _⟩
  by_cases g7 : 65536 < o
  · have HC : Hid (c = 7) := Lib.hid (by rw [← hc]; unfold chk; repeat (first | rw [if_pos (by omega)] | rw [if_neg (by omega)]))
    clear hc
    go_enter Try.func32, Try.ntmps32
    go_wp2_with (first
      | ((with_reducible refine (Jax.out _).mono ?_); rintro e w' ⟨rfl, rfl⟩)
      | ((with_reducible refine (Jay.out _).mono ?_); rintro e w' ⟨rfl, rfl⟩))
    go_ret
    exact ⟨ret_i64 HC.out.symm, (Grown.refl _).alloc _ _⟩
  by_cases g8 : ¬ (-1073741824 ≤ px ∧ px ≤ 1073741824)
  · have Jpx := Lib.hid (rin (n := px) (l := 1073741824) (c := false) (by decide) (by decide) (decide_eq_false g8))
    have HC : Hid (c = 8) := Lib.hid (by rw [← hc]; unfold chk; repeat (first | rw [if_pos (by omega)] | rw [if_neg (by omega)]))
    clear hc
    go_enter Try.func32, Try.ntmps32
    go_wp2_with (first
      | ((with_reducible refine (Jax.out _).mono ?_); rintro e w' ⟨rfl, rfl⟩)
      | ((with_reducible refine (Jay.out _).mono ?_); rintro e w' ⟨rfl, rfl⟩)
      | ((with_reducible refine (Jpx.out _).mono ?_); rintro e w' ⟨rfl, rfl⟩))
    go_ret
    exact ⟨ret_i64 HC.out.symm, (Grown.refl _).alloc _ _⟩
  replace g8 := Decidable.not_not.1 g8
  have Jpx := Lib.hid (rin (n := px) (l := 1073741824) (c := true) (by decide) (by decide) (decide_eq_true g8))
  by_cases g9 : ¬ (-1073741824 ≤ py ∧ py ≤ 1073741824)
  · have Jpy := Lib.hid (rin (n := py) (l := 1073741824) (c := false) (by decide) (by decide) (decide_eq_false g9))
    have HC : Hid (c = 8) := Lib.hid (by rw [← hc]; unfold chk; repeat (first | rw [if_pos (by omega)] | rw [if_neg (by omega)]))
    clear hc
    go_enter Try.func32, Try.ntmps32
    go_wp2_with (first
      | ((with_reducible refine (Jax.out _).mono ?_); rintro e w' ⟨rfl, rfl⟩)
      | ((with_reducible refine (Jay.out _).mono ?_); rintro e w' ⟨rfl, rfl⟩)
      | ((with_reducible refine (Jpx.out _).mono ?_); rintro e w' ⟨rfl, rfl⟩)
      | ((with_reducible refine (Jpy.out _).mono ?_); rintro e w' ⟨rfl, rfl⟩))
    go_ret
    exact ⟨ret_i64 HC.out.symm, (Grown.refl _).alloc _ _⟩
  replace g9 := Decidable.not_not.1 g9
  have Jpy := Lib.hid (rin (n := py) (l := 1073741824) (c := true) (by decide) (by decide) (decide_eq_true g9))
  by_cases g10 : ¬ (-16777216 ≤ vx ∧ vx ≤ 16777216)
  · have Jvx := Lib.hid (rin (n := vx) (l := 16777216) (c := false) (by decide) (by decide) (decide_eq_false g10))
    have HC : Hid (c = 9) := Lib.hid (by rw [← hc]; unfold chk; repeat (first | rw [if_pos (by omega)] | rw [if_neg (by omega)]))
    clear hc
    go_enter Try.func32, Try.ntmps32
    go_wp2_with (first
      | ((with_reducible refine (Jax.out _).mono ?_); rintro e w' ⟨rfl, rfl⟩)
      | ((with_reducible refine (Jay.out _).mono ?_); rintro e w' ⟨rfl, rfl⟩)
      | ((with_reducible refine (Jpx.out _).mono ?_); rintro e w' ⟨rfl, rfl⟩)
      | ((with_reducible refine (Jpy.out _).mono ?_); rintro e w' ⟨rfl, rfl⟩)
      | ((with_reducible refine (Jvx.out _).mono ?_); rintro e w' ⟨rfl, rfl⟩))
    go_ret
    exact ⟨ret_i64 HC.out.symm, (Grown.refl _).alloc _ _⟩
  replace g10 := Decidable.not_not.1 g10
  have Jvx := Lib.hid (rin (n := vx) (l := 16777216) (c := true) (by decide) (by decide) (decide_eq_true g10))
  by_cases g11 : ¬ (-16777216 ≤ vy ∧ vy ≤ 16777216)
  · have Jvy := Lib.hid (rin (n := vy) (l := 16777216) (c := false) (by decide) (by decide) (decide_eq_false g11))
    have HC : Hid (c = 9) := Lib.hid (by rw [← hc]; unfold chk; repeat (first | rw [if_pos (by omega)] | rw [if_neg (by omega)]))
    clear hc
    go_enter Try.func32, Try.ntmps32
    go_wp2_with (first
      | ((with_reducible refine (Jax.out _).mono ?_); rintro e w' ⟨rfl, rfl⟩)
      | ((with_reducible refine (Jay.out _).mono ?_); rintro e w' ⟨rfl, rfl⟩)
      | ((with_reducible refine (Jpx.out _).mono ?_); rintro e w' ⟨rfl, rfl⟩)
      | ((with_reducible refine (Jpy.out _).mono ?_); rintro e w' ⟨rfl, rfl⟩)
      | ((with_reducible refine (Jvx.out _).mono ?_); rintro e w' ⟨rfl, rfl⟩)
      | ((with_reducible refine (Jvy.out _).mono ?_); rintro e w' ⟨rfl, rfl⟩))
    go_ret
    exact ⟨ret_i64 HC.out.symm, (Grown.refl _).alloc _ _⟩
  replace g11 := Decidable.not_not.1 g11
  have Jvy := Lib.hid (rin (n := vy) (l := 16777216) (c := true) (by decide) (by decide) (decide_eq_true g11))
  have HC : Hid (c = 0) := Lib.hid (by rw [← hc]; unfold chk; repeat (first | rw [if_pos (by omega)] | rw [if_neg (by omega)]))
  clear hc
  go_enter Try.func32, Try.ntmps32
  go_wp2_with (first
    | ((with_reducible refine (Jax.out _).mono ?_); rintro e w' ⟨rfl, rfl⟩)
    | ((with_reducible refine (Jay.out _).mono ?_); rintro e w' ⟨rfl, rfl⟩)
    | ((with_reducible refine (Jpx.out _).mono ?_); rintro e w' ⟨rfl, rfl⟩)
    | ((with_reducible refine (Jpy.out _).mono ?_); rintro e w' ⟨rfl, rfl⟩)
    | ((with_reducible refine (Jvx.out _).mono ?_); rintro e w' ⟨rfl, rfl⟩)
    | ((with_reducible refine (Jvy.out _).mono ?_); rintro e w' ⟨rfl, rfl⟩))
  go_ret
  exact ⟨ret_i64 HC.out.symm, (Grown.refl _).alloc _ _⟩
end Go.Proofs.Ytllkokfaodpfiaa
