/-
  The reference implementation of package wide: MulDiv and MulShift return what the program's functions return.
-/
import Derived.Test.YtlcenopebgkjgaaRefFloor
namespace Go.Proofs.Ytlcenopebgkjgaa
open Go.RowKit Go.Lib

set_option maxRecDepth 100000 in
set_option maxHeartbeats 4000000 in
theorem refmd_walk (a b c C D z0 z1 z2 z3 z4 z5 z6 z7 q r X xv xe : Int) (sm n ok sa sb sc : Bool) (hc0 : (c == 0) = false) (h1 : decide (a < 0) = sa) (h2 : decide (b < 0) = sb) (h3 : decide (c < 0) = sc)
    (hD : (sc = true ∧ IntKind.u64.wrap c = C ∧ IntKind.u64.wrap (-C) = D) ∨ (sc = false ∧ IntKind.u64.wrap c = D)) (hn : n = ((sa != sb) != sc))
    (pr : Hid (Prods a b z0 z1 z2 z3 z4 z5 z6 z7))
    (dv : Hid (∀ w, Calls Try.prog 65 #[.agg #[.int .u64 z0, .int .u64 z1, .int .u64 z2, .int .u64 z3, .int .u64 z4, .int .u64 z5, .int .u64 z6, .int .u64 z7], .int .u64 D] w fun e w' => e = .returned (.tuple #[.int .u64 q, .int .u64 r, .bool sm]) ∧ Grown w w'))
    (fr : Hid (∀ w, Calls Try.prog 67 #[.int .u64 q, .int .u64 r, .bool sm, .bool n] w fun e w' => e = .returned (.tuple #[.int .i64 X, .bool ok]) ∧ Grown w w'))
    (hx : (ok = true ∧ xv = X ∧ xe = 0) ∨ (ok = false ∧ xv = 0 ∧ xe = 3)) (w : World) :
    Calls Try.prog 61 #[.int .i64 a, .int .i64 b, .int .i64 c] w fun e w' => e = .returned (.tuple #[.int .i64 xv, .int .i64 xe]) ∧ Grown w w' := by
  rcases hx with ⟨rfl, rfl, rfl⟩ | ⟨rfl, rfl, rfl⟩ <;> rcases hD with ⟨rfl, h4, h5⟩ | ⟨rfl, h4⟩ <;> cases sa <;> cases sb <;> subst hn
  all_goals
    go_enter Try.func61, Try.ntmps61
    go_wp2_with (first
      | ((with_reducible refine (pr.out _).mono ?_); rintro e w1 ⟨rfl, g1⟩)
      | ((with_reducible refine (dv.out _).mono ?_); rintro e w2 ⟨rfl, g2⟩)
      | (go_at_call 67; refine (fr.out _).mono ?_; rintro e w3 ⟨rfl, g3⟩))
    go_ret2
    exact ⟨rfl, grown_trans g1 (grown_trans g2 g3)⟩

theorem refmd_any (a b c : Int) (ha : I64 a) (hb : I64 b) (hc : I64 c) (w : World) :
    Calls Try.prog 61 #[.int .i64 a, .int .i64 b, .int .i64 c] w fun e w' => e = .returned (.tuple #[.int .i64 (mdv a b c), .int .i64 (mde a b c)]) ∧ Grown w w' := by
  by_cases h0 : c = 0
  · subst h0
    have e1 : mdv a b 0 = 0 := rfl
    have e2 : mde a b 0 = 2 := rfl
    rw [e1, e2]
    go_enter Try.func61, Try.ntmps61
    go_wp2
    go_ret2
    exact ⟨rfl, Grown.refl _⟩
  have e1 : mdv a b c = rv (fl (a * b) c) := if_neg h0
  have e2 : mde a b c = re (fl (a * b) c) := if_neg h0
  rw [e1, e2, ← qs_fl a b c h0]
  obtain ⟨z0, z1, z2, z3, z4, z5, z6, z7, h8, pr⟩ := product_any a b ha hb
  have c0 := hc.mag0
  have c1 : 0 < mag c := by unfold mag; split <;> omega
  have hV : 0 ≤ mag a * mag b := Int.mul_nonneg ha.mag0.1 hb.mag0.1
  obtain ⟨V, eV⟩ : ∃ V, V = mag a * mag b := ⟨_, rfl⟩
  rw [← eV] at h8 hV ⊢
  obtain ⟨n, hn⟩ : ∃ n, n = ((decide (a < 0) != decide (b < 0)) != decide (c < 0)) := ⟨_, rfl⟩
  rw [← hn, ← flv_qs V (mag c) n c1]
  have hQ : 0 ≤ V / mag c := Int.ediv_nonneg hV (by omega)
  have hD : (decide (c < 0) = true ∧ IntKind.u64.wrap c = c + 18446744073709551616 ∧ IntKind.u64.wrap (-(c + 18446744073709551616)) = mag c) ∨ (decide (c < 0) = false ∧ IntKind.u64.wrap c = mag c) := by
    obtain ⟨i1, i2⟩ := hc
    unfold mag
    by_cases h : c < 0
    · left; rw [if_pos h]; refine ⟨decide_eq_true h, ?_, ?_⟩ <;> (rw [IntKind.wrap_u64]; omega)
    · right; rw [if_neg h]; refine ⟨decide_eq_false h, ?_⟩; rw [IntKind.wrap_u64]; omega
  obtain ⟨X, ok, hX, rfl, hfx⟩ := floor_any (V / mag c) (V % mag c) n hQ
  refine refmd_walk a b c _ (mag c) z0 z1 z2 z3 z4 z5 z6 z7 _ _ X _ _ _ n _ _ _ _ (by simpa using h0) rfl rfl rfl hD hn (Lib.hid pr) (Lib.hid fun w => divide_any V z0 z1 z2 z3 z4 z5 z6 z7 (mag c) (Lib.hid h8) hV c1 (by omega) w) (Lib.hid hfx) ?_ w
  by_cases hi : I64 (flv (V / mag c) (V % mag c) n)
  · left; exact ⟨decide_eq_true hi, by rw [rv_in hi, hX hi], re_in hi⟩
  · right; exact ⟨decide_eq_false hi, rv_out hi, re_out hi⟩
end Go.Proofs.Ytlcenopebgkjgaa
