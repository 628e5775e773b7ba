/-
  The reference implementation of package wide: MulShift returns what the program's function returns; and the walk of the law WideMatchesReference.
-/
import Derived.Test.YtnmlknjjbonenaaRefFloor
namespace Go.Proofs.Ytnmlknjjbonenaa
open Go.RowKit Go.Lib

set_option maxRecDepth 100000 in
set_option maxHeartbeats 4000000 in
theorem refms_walk (a b n D z0 z1 z2 z3 z4 z5 z6 z7 q r X xv xe : Int) (sm s ok sa sb : Bool) (h1 : decide (a < 0) = sa) (h2 : decide (b < 0) = sb) (hn0 : ¬ n < 0) (hn1 : ¬ 63 < n) (hD : Hid (D = 2 ^ n.toNat))
    (hn : s = (sa != sb)) (pr : Hid (Prods a b z0 z1 z2 z3 z4 z5 z6 z7))
    (dv : Hid (∀ w, Calls Try.prog 30 #[.agg #[.int .u64 z0, .int .u64 z1, .int .u64 z2, .int .u64 z3, .int .u64 z4, .int .u64 z5, .int .u64 z6, .int .u64 z7], .int .u64 D] w fun e w' => e = .returned (.tuple #[.int .u64 q, .int .u64 r, .bool sm]) ∧ Grown w w'))
    (fr : Hid (∀ w, Calls Try.prog 32 #[.int .u64 q, .int .u64 r, .bool sm, .bool s] w fun e w' => e = .returned (.tuple #[.int .i64 X, .bool ok]) ∧ Grown w w'))
    (hx : (ok = true ∧ xv = X ∧ xe = 0) ∨ (ok = false ∧ xv = 0 ∧ xe = 3)) (w : World) :
    Calls Try.prog 25 #[.int .i64 a, .int .i64 b, .int .i64 n] w fun e w' => e = .returned (.tuple #[.int .i64 xv, .int .i64 xe]) ∧ Grown w w' := by
  go_enter Try.func25, Try.ntmps25
  go_wp2_with fail
  go_loopg [8, 9] n.toNat (fun k s8 s9 wr => ∃ (m : Nat) (di ii : Int), s8 = .int .u64 di ∧ s9 = .int .i64 ii ∧ 0 ≤ ii ∧ ii ≤ n ∧ wr = w ∧ Hid (ii = m ∧ di = 2 ^ m ∧ m + k = n.toNat))
  case atStart => exact ⟨0, _, _, rfl, rfl, by omega, by omega, rfl, Lib.hid ⟨rfl, rfl, by omega⟩⟩
  case round =>
    obtain ⟨m, di, ii, rfl, rfl, hi0, hi1, rfl, H⟩ := hrel
    by_cases hc : ii < n
    · have hp := two_pow (m + 1) (by have := H.out; omega)
      obtain ⟨x1, x2, x3⟩ := H.out
      rw [Int.pow_succ, ← x2] at hp
      obtain ⟨d', ed⟩ : ∃ d', d' = 2 * di := ⟨_, rfl⟩
      obtain ⟨i', ei⟩ : ∃ i', i' = ii + 1 := ⟨_, rfl⟩
      have k1 : IntKind.u64.wrap (2 * di) = d' := by rw [IntKind.wrap_u64]; omega
      have k2 : IntKind.i64.wrap (ii + 1) = i' := by rw [IntKind.wrap_i64]; omega
      have k3 : wrap64 (ii + 1) = i' := by unfold wrap64; omega
      obtain ⟨k', ek⟩ : ∃ k', gk = k' + 1 := ⟨gk - 1, by omega⟩
      have HE : Hid (i' = ((m + 1 : Nat) : Int) ∧ d' = 2 ^ (m + 1) ∧ m + 1 + k' = n.toNat ∧ 0 ≤ i' ∧ i' ≤ n ∧ k' < gk) := Lib.hid ⟨by omega, by rw [Int.pow_succ, ← x2]; omega, by omega, by omega, by omega, by omega⟩
      clear x1 x2 x3 ed ei ek hp
      go_wp2_with fail
      go_roundg k'
      case measure => exact HE.out.2.2.2.2.2
      case rel => exact ⟨m + 1, _, _, rfl, rfl, HE.out.2.2.2.1, HE.out.2.2.2.2.1, rfl, Lib.hid ⟨HE.out.1, HE.out.2.1, HE.out.2.2.1⟩⟩
    · have e : di = D := by
        obtain ⟨x1, x2, x3⟩ := H.out
        have e2 : n.toNat = m := by omega
        rw [x2, hD.out, e2]
      subst e
      rcases hx with ⟨rfl, rfl, rfl⟩ | ⟨rfl, rfl, rfl⟩ <;> cases sa <;> cases sb <;> subst hn
      all_goals
        go_wp2_with (first
          | ((with_reducible refine (pr.out _).mono ?_); rintro e w1 ⟨rfl, g1⟩)
          | ((with_reducible refine (dv.out _).mono ?_); rintro e w2 ⟨rfl, g2⟩)
          | (go_at_call 32; refine (fr.out _).mono ?_; rintro e w3 ⟨rfl, g3⟩))
        go_ret2
        exact ⟨rfl, grown_trans g1 (grown_trans g2 g3)⟩

theorem refms_any (a b n : Int) (ha : I64 a) (hb : I64 b) (w : World) :
    Calls Try.prog 25 #[.int .i64 a, .int .i64 b, .int .i64 n] w fun e w' => e = .returned (.tuple #[.int .i64 (msv a b n), .int .i64 (mse a b n)]) ∧ Grown w w' := by
  by_cases h : n < 0 ∨ 63 < n
  · have e1 : msv a b n = 0 := if_pos h
    have e2 : mse a b n = 1 := if_pos h
    rw [e1, e2]
    by_cases h1 : n < 0
    · clear h
      go_enter Try.func25, Try.ntmps25
      go_wp2
      go_ret2
      exact ⟨rfl, Grown.refl _⟩
    · have h2 : 63 < n := by omega
      clear h
      go_enter Try.func25, Try.ntmps25
      go_wp2
      go_ret2
      exact ⟨rfl, Grown.refl _⟩
  have e1 : msv a b n = rv (a * b / 2 ^ n.toNat) := if_neg h
  have e2 : mse a b n = re (a * b / 2 ^ n.toNat) := if_neg h
  obtain ⟨D, hD⟩ : ∃ D : Int, D = 2 ^ n.toNat := ⟨_, rfl⟩
  have c1 := two_pow n.toNat (by omega)
  rw [← hD] at c1 e1 e2
  rw [e1, e2, ← qs_shift a b D c1.1]
  obtain ⟨z0, z1, z2, z3, z4, z5, z6, z7, h8, pr⟩ := product_any a b ha hb
  have hV : 0 ≤ mag a * mag b := Int.mul_nonneg ha.mag0.1 hb.mag0.1
  obtain ⟨V, eV⟩ : ∃ V, V = mag a * mag b := ⟨_, rfl⟩
  rw [← eV] at h8 hV ⊢
  obtain ⟨s, hs⟩ : ∃ s, s = (decide (a < 0) != decide (b < 0)) := ⟨_, rfl⟩
  rw [← hs, ← flv_qs V D s c1.1]
  have hQ : 0 ≤ V / D := Int.ediv_nonneg hV (by omega)
  obtain ⟨X, ok, hX, rfl, hfx⟩ := floor_any (V / D) (V % D) s hQ
  refine refms_walk a b n D z0 z1 z2 z3 z4 z5 z6 z7 _ _ X _ _ _ s _ _ _ rfl rfl (fun x => h (.inl x)) (fun x => h (.inr x)) (Lib.hid hD) hs (Lib.hid pr) (Lib.hid fun w => divide_any V z0 z1 z2 z3 z4 z5 z6 z7 D (Lib.hid h8) hV c1.1 (by omega) w) (Lib.hid hfx) ?_ w
  by_cases hi : I64 (flv (V / D) (V % D) s)
  · left; exact ⟨decide_eq_true hi, by rw [rv_in hi, hX hi], re_in hi⟩
  · right; exact ⟨decide_eq_false hi, rv_out hi, re_out hi⟩

theorem refms_at (a b n v e : Int) (ha : I64 a) (hb : I64 b) (h1 : msv a b n = v) (h2 : mse a b n = e) (w : World) :
    Calls Try.prog 25 #[.int .i64 a, .int .i64 b, .int .i64 n] w fun e' w' => e' = .returned (.tuple #[.int .i64 v, .int .i64 e]) ∧ Grown w w' := by
  rw [← h1, ← h2]; exact refms_any a b n ha hb w

end Go.Proofs.Ytnmlknjjbonenaa
