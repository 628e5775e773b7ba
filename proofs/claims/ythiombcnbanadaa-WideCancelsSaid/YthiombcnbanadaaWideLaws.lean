/-
  The walks of three laws of package wide: WideCancels, WideSymmetric, WideShifts.
-/
import Derived.Test.YthiombcnbanadaaWideAwake
namespace Go.Proofs.Ythiombcnbanadaa
open Go.RowKit Go.Lib

theorem fl_cancel (a b : Int) (hb : b ≠ 0) : fl (a * b) b = a := by
  unfold fl
  split
  · rw [← Int.mul_neg]; exact Int.mul_ediv_cancel _ (by omega)
  · exact Int.mul_ediv_cancel _ hb
theorem fl_one (n : Int) : fl n 1 = n := by
  unfold fl; rw [if_neg (by decide)]; exact Int.ediv_one n

set_option maxRecDepth 100000 in
set_option maxHeartbeats 1000000 in
theorem cancels (a b : Int) (ha : I64 a) (hb : I64 b) (w : World) :
    Calls Try.prog 7 #[.int .i64 a, .int .i64 b] w fun e w' => e = .returned (.bool true) ∧ Grown w w' := by
  have I1 := ik 1
  by_cases h0 : b = 0
  · subst h0
    have d1 := Lib.hid (fun w => md_at a 0 0 0 2 ha hb hb rfl rfl w)
    have d2 := Lib.hid (fun w => md_at a 0 1 0 0 ha hb I1 (by unfold mdv; rw [Int.mul_zero]; decide) (by unfold mde; rw [Int.mul_zero]; decide) w)
    have d3 := Lib.hid (fun w => ms_at a 0 0 0 0 ha hb (by unfold msv; rw [Int.mul_zero]; decide) (by unfold mse; rw [Int.mul_zero]; decide) w)
    go_enter Try.func7, Try.ntmps7
    go_wp2_with (first
      | ((with_reducible refine (awake_any _).mono ?_); rintro e w1 ⟨rfl, g1⟩)
      | ((with_reducible refine (d1.out _).mono ?_); rintro e w2 ⟨rfl, g2⟩)
      | ((with_reducible refine (d2.out _).mono ?_); rintro e w3 ⟨rfl, g3⟩)
      | ((with_reducible refine (d3.out _).mono ?_); rintro e w4 ⟨rfl, g4⟩))
    go_ret
    exact ⟨rfl, grown_trans g1 (grown_trans g2 (grown_trans g3 g4))⟩
  · have hbz : (b == 0) = false := by simpa using h0
    have E1 : mdv a b 1 = rv (a * b) := by unfold mdv; rw [if_neg (by decide), fl_one]
    have E2 : mde a b 1 = re (a * b) := by unfold mde; rw [if_neg (by decide), fl_one]
    have E3 : msv a b 0 = rv (a * b) := by unfold msv; rw [if_neg (by decide)]; simp
    have E4 : mse a b 0 = re (a * b) := by unfold mse; rw [if_neg (by decide)]; simp
    obtain ⟨v, hv⟩ : ∃ v, v = rv (a * b) := ⟨_, rfl⟩
    obtain ⟨x, hx⟩ : ∃ x, x = re (a * b) := ⟨_, rfl⟩
    rw [← hv] at E1 E3; rw [← hx] at E2 E4
    have d1 := Lib.hid (fun w => md_at a b b a 0 ha hb hb (by unfold mdv; rw [if_neg h0, fl_cancel a b h0, rv_in ha]) (by unfold mde; rw [if_neg h0, fl_cancel a b h0, re_in ha]) w)
    have d2 := Lib.hid (fun w => md_at a b 1 v x ha hb I1 E1 E2 w)
    have d3 := Lib.hid (fun w => ms_at a b 0 v x ha hb E3 E4 w)
    clear E1 E2 E3 E4 hv hx h0
    go_enter Try.func7, Try.ntmps7
    go_wp2_with (first
      | ((with_reducible refine (awake_any _).mono ?_); rintro e w1 ⟨rfl, g1⟩)
      | ((with_reducible refine (d1.out _).mono ?_); rintro e w2 ⟨rfl, g2⟩)
      | ((with_reducible refine (d2.out _).mono ?_); rintro e w3 ⟨rfl, g3⟩)
      | ((with_reducible refine (d3.out _).mono ?_); rintro e w4 ⟨rfl, g4⟩))
    go_ret
    exact ⟨rfl, grown_trans g1 (grown_trans g2 (grown_trans g3 g4))⟩
end Go.Proofs.Ythiombcnbanadaa
