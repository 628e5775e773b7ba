/-
  The walks of two laws of package fx: FxBounds, FxMatchesReference.
-/
import Derived.Test.YtcachdbdcfjknaaFxLaws2
namespace Go.Proofs.Ytcachdbdcfjknaa
open Go.RowKit Go.Lib

set_option maxRecDepth 100000 in
set_option maxHeartbeats 2000000 in
theorem bounds_walk (a b m p q e X u v : Int) (ha : I32 a) (hb : I32 b) (hp : IntKind.i64.wrap (a * b) = p) (m0 : -2147483648 ≤ m) (m1 : m ≤ 2147483647)
    (hm : ¬ m < 2147483647 ∨ (m < 2147483647 ∧ ¬ -2147483648 < m) ∨ (m < 2147483647 ∧ -2147483648 < m ∧ m * 65536 ≤ p ∧ p < (m + 1) * 65536))
    (hX : a * 65536 = X) (q0 : -2147483648 ≤ q) (q1 : q ≤ 2147483647) (hu : IntKind.i64.wrap (q * b) = u) (hv : IntKind.i64.wrap ((q + 1) * b) = v)
    (d1 : Hid (Mul2 a b m)) (d2 : Hid (Div2 a b q e))
    (hq : ((e == 0) = false ∧ (b == 0) = true ∧ (q == 0) = true) ∨ ((e == 0) = true ∧ (q == 2147483647) = true) ∨ ((e == 0) = true ∧ (q == 2147483647) = false ∧ (q == -2147483648) = true) ∨ ((e == 0) = true ∧ (q == 2147483647) = false ∧ (q == -2147483648) = false ∧ 0 < b ∧ u ≤ X ∧ X < v) ∨ ((e == 0) = true ∧ (q == 2147483647) = false ∧ (q == -2147483648) = false ∧ ¬ 0 < b ∧ X ≤ u ∧ v < X)) (w : World) :
    Calls Try.prog 4 #[.int .i32 a, .int .i32 b] w fun e w' => e = .returned (.bool true) ∧ Grown w w' := by
  obtain ⟨a0, a1⟩ := ha; obtain ⟨b0, b1⟩ := hb
  rcases hm with hm | ⟨hm, hm2⟩ | ⟨hm, hm2, hm3, hm4⟩ <;> rcases hq with ⟨k1, k2, k3⟩ | ⟨k1, k2⟩ | ⟨k1, k2, k3⟩ | ⟨k1, k2, k3, k4, k5, k6⟩ | ⟨k1, k2, k3, k4, k5, k6⟩
  all_goals
    go_enter Try.func4, Try.ntmps4
    go_wp2_with (first
      | ((with_reducible refine (awake_any _).mono ?_); rintro e w1 ⟨rfl, g1⟩)
      | ((with_reducible refine (d1.out _).mono ?_); rintro e w2 ⟨rfl, g2⟩)
      | ((with_reducible refine (d2.out _).mono ?_); rintro e w3 ⟨rfl, g3⟩))
    go_ret
    exact ⟨rfl, grown_trans g1 (grown_trans g2 g3)⟩

theorem bounds (a b : Int) (ha : I32 a) (hb : I32 b) (w : World) :
    Calls Try.prog 4 #[.int .i32 a, .int .i32 b] w fun e w' => e = .returned (.bool true) ∧ Grown w w' := by
  have hp := mul32 ha hb
  have hq := sat_in (fl (a * 65536) b)
  have hqb : I32 (dq a b) := by
    unfold dq; split
    · exact ik32 0
    · exact hq
  have hu := mul32 hqb hb
  have ha1 := ha.1; have ha2 := ha.2; have hb1 := hb.1; have hb2 := hb.2
  obtain ⟨p, hP⟩ : ∃ p, p = a * b := ⟨_, rfl⟩
  obtain ⟨q, hQ⟩ : ∃ q, q = dq a b := ⟨_, rfl⟩
  rw [← hP] at hp
  rw [← hQ] at hu hqb
  obtain ⟨u, hU⟩ : ∃ u, u = q * b := ⟨_, rfl⟩
  have hV : (q + 1) * b = u + b := by rw [Int.add_mul, Int.one_mul, hU]
  rw [← hU] at hu
  have q0 := hqb.1; have q1 := hqb.2
  have hm : sat (p / 65536) = max (-2147483648) (min (p / 65536) 2147483647) := rfl
  have hmi := sat_in (p / 65536)
  obtain ⟨m, hM⟩ : ∃ m, m = sat (p / 65536) := ⟨_, rfl⟩
  rw [← hM] at hm hmi
  refine bounds_walk a b m p q (de b) (a * 65536) u (u + b) ha hb (by rw [← hP, IntKind.wrap_i64]; omega) hmi.1 (by have := hmi.2; omega) ?_ rfl q0 (by omega) (by rw [← hU, IntKind.wrap_i64]; omega) (by rw [hV, IntKind.wrap_i64]; omega)
    (Lib.hid (mul2 ha hb (by rw [← hP, hM]))) (Lib.hid (div2 ha hb hQ.symm rfl)) ?_ w
  · by_cases c1 : m < 2147483647
    · by_cases c2 : -2147483648 < m
      · exact .inr (.inr ⟨c1, c2, by omega, by omega⟩)
      · exact .inr (.inl ⟨c1, c2⟩)
    · exact .inl c1
  · by_cases h0 : b = 0
    · subst h0
      left
      exact ⟨by decide, by decide, by rw [hQ]; unfold dq; rw [if_pos rfl]; rfl⟩
    · right
      have e0 : (de b == 0) = true := by unfold de; rw [if_neg h0]; rfl
      have eq : q = sat (fl (a * 65536) b) := by rw [hQ]; unfold dq; rw [if_neg h0]
      obtain ⟨F, hF⟩ : ∃ F, F = fl (a * 65536) b := ⟨_, rfl⟩
      rw [← hF] at eq
      by_cases c1 : q = 2147483647
      · exact .inl ⟨e0, by simpa using c1⟩
      · by_cases c2 : q = -2147483648
        · exact .inr (.inl ⟨e0, by simpa using c1, by simpa using c2⟩)
        · have eF : F = q := by unfold sat at eq; omega
          rw [eF] at hF
          unfold fl at hF
          by_cases hb0 : 0 < b
          · right; right; left
            rw [if_neg (by omega)] at hF
            have l1 : u ≤ a * 65536 := by rw [hU, hF]; exact Int.ediv_mul_le _ (by omega)
            have l2 : a * 65536 < u + b := by rw [← hV, hF]; exact Int.lt_ediv_add_one_mul_self (a * 65536) hb0
            exact ⟨e0, by simpa using c1, by simpa using c2, hb0, l1, l2⟩
          · right; right; right
            rw [if_pos (by omega)] at hF
            have l1 : q * (-b) ≤ -(a * 65536) := by rw [hF]; exact Int.ediv_mul_le _ (by omega)
            have l2 : -(a * 65536) < (q + 1) * (-b) := by
              have := Int.lt_ediv_add_one_mul_self (-(a * 65536)) (show 0 < -b by omega); rw [← hF] at this; exact this
            rw [Int.mul_neg, ← hU] at l1
            rw [Int.mul_neg, hV] at l2
            exact ⟨e0, by simpa using c1, by simpa using c2, hb0, by omega, by omega⟩

set_option maxRecDepth 100000 in
set_option maxHeartbeats 4000000 in
theorem matches_walk (a b n l q e m s f k A S N B F R c C1 C2 C3 : Int) (ha : I32 a) (hb : I32 b) (hl : ¬ 0 ≤ l ∨ 0 ≤ l)
    (hc : (¬ a < 0 ∧ c = a) ∨ (a < 0 ∧ N = B)) (h1 : a + b = C1) (h2 : a - b = C2) (h3 : -a = C3) (hF0 : -32768 ≤ F) (hF1 : F ≤ 32767) (hR0 : -2147483648 ≤ R) (hR1 : R ≤ 2147483647) (hR : a - F * 65536 = R)
    (dQ : Hid (Div2 a b q e)) (rQ : Hid (∀ w, Calls Try.prog 10 #[.int .i32 a, .int .i32 b] w fun e' w' => e' = .returned (.tuple #[.int .i32 q, .int .i64 e]) ∧ w = w'))
    (dM : Hid (Mul2 a b m)) (rM : Hid (∀ w, Calls Try.prog 12 #[.int .i32 a, .int .i32 b] w fun e' w' => e' = .returned (.int .i32 m) ∧ w = w'))
    (dS : Hid (Sat1 n s)) (rS : Hid (∀ w, Calls Try.prog 14 #[.int .i64 n] w fun e' w' => e' = .returned (.int .i32 s) ∧ w = w'))
    (dF : Hid (Fro1 n f)) (rF : Hid (∀ w, Calls Try.prog 16 #[.int .i64 n] w fun e' w' => e' = .returned (.int .i32 f) ∧ w = w'))
    (dL : Hid (0 ≤ l → Lim2 n l k)) (rL : Hid (0 ≤ l → ∀ w, Calls Try.prog 18 #[.int .i64 n, .int .i64 l] w fun e' w' => e' = .returned (.int .i64 k) ∧ w = w'))
    (dA : Hid (Add2 a b A)) (rA : Hid (∀ w, Calls Try.prog 14 #[.int .i64 C1] w fun e' w' => e' = .returned (.int .i32 A) ∧ w = w'))
    (dB : Hid (Sub2 a b S)) (rB : Hid (∀ w, Calls Try.prog 14 #[.int .i64 C2] w fun e' w' => e' = .returned (.int .i32 S) ∧ w = w'))
    (dN : Hid (Neg1 a N)) (rN : Hid (∀ w, Calls Try.prog 14 #[.int .i64 C3] w fun e' w' => e' = .returned (.int .i32 N) ∧ w = w'))
    (dV : Hid (Abs1 a B)) (rV : Hid (∀ w, Calls Try.prog 14 #[.int .i64 c] w fun e' w' => e' = .returned (.int .i32 B) ∧ w = w'))
    (dG : Hid (Flo1 a F)) (rG : Hid (∀ w, Calls Try.prog 19 #[.int .i64 a, .int .i64 65536] w fun e' w' => e' = .returned (.int .i64 F) ∧ w = w'))
    (dR : Hid (Fra1 a R)) (w : World) :
    Calls Try.prog 3 #[.int .i32 a, .int .i32 b, .int .i64 n, .int .i64 l] w fun e w' => e = .returned (.bool true) ∧ Grown w w' := by
  obtain ⟨a0, a1⟩ := ha; obtain ⟨b0, b1⟩ := hb
  rcases hl with hl | hl <;> rcases hc with ⟨c0, c1⟩ | ⟨c0, c1⟩
  all_goals
    obtain rfl := c1
    go_enter Try.func3, Try.ntmps3
    go_wp2_with (first
      | ((with_reducible refine (awake_any _).mono ?_); rintro e w1 ⟨rfl, g1⟩)
      | ((with_reducible refine (dQ.out _).mono ?_); rintro e w2 ⟨rfl, g2⟩)
      | ((with_reducible refine (rQ.out _).mono ?_); rintro e w' ⟨rfl, rfl⟩)
      | ((with_reducible refine (dM.out _).mono ?_); rintro e w3 ⟨rfl, g3⟩)
      | ((with_reducible refine (rM.out _).mono ?_); rintro e w' ⟨rfl, rfl⟩)
      | ((with_reducible refine (dS.out _).mono ?_); rintro e w' ⟨rfl, rfl⟩)
      | ((with_reducible refine (rS.out _).mono ?_); rintro e w' ⟨rfl, rfl⟩)
      | ((with_reducible refine (dF.out _).mono ?_); rintro e w' ⟨rfl, rfl⟩)
      | ((with_reducible refine (rF.out _).mono ?_); rintro e w' ⟨rfl, rfl⟩)
      | ((with_reducible refine (dL.out hl _).mono ?_); rintro e w' ⟨rfl, rfl⟩)
      | ((with_reducible refine (rL.out hl _).mono ?_); rintro e w' ⟨rfl, rfl⟩)
      | ((with_reducible refine (dA.out _).mono ?_); rintro e w4 ⟨rfl, g4⟩)
      | ((with_reducible refine (rA.out _).mono ?_); rintro e w' ⟨rfl, rfl⟩)
      | ((with_reducible refine (dB.out _).mono ?_); rintro e w5 ⟨rfl, g5⟩)
      | ((with_reducible refine (rB.out _).mono ?_); rintro e w' ⟨rfl, rfl⟩)
      | ((with_reducible refine (dN.out _).mono ?_); rintro e w6 ⟨rfl, g6⟩)
      | ((with_reducible refine (rN.out _).mono ?_); rintro e w' ⟨rfl, rfl⟩)
      | ((with_reducible refine (dV.out _).mono ?_); rintro e w7 ⟨rfl, g7⟩)
      | ((with_reducible refine (rV.out _).mono ?_); rintro e w' ⟨rfl, rfl⟩)
      | ((with_reducible refine (dG.out _).mono ?_); rintro e w' ⟨rfl, rfl⟩)
      | ((with_reducible refine (rG.out _).mono ?_); rintro e w' ⟨rfl, rfl⟩)
      | ((with_reducible refine (dR.out _).mono ?_); rintro e w' ⟨rfl, rfl⟩))
    go_ret
    exact ⟨rfl, grown_trans g1 (grown_trans g2 (grown_trans g3 (grown_trans g4 (grown_trans g5 (grown_trans g6 g7)))))⟩

theorem matches_all (a b n l : Int) (ha : I32 a) (hb : I32 b) (hn : I64 n) (hl : I64 l) (w : World) :
    Calls Try.prog 3 #[.int .i32 a, .int .i32 b, .int .i64 n, .int .i64 l] w fun e w' => e = .returned (.bool true) ∧ Grown w w' := by
  have ha1 := ha.1; have ha2 := ha.2; have hb1 := hb.1; have hb2 := hb.2
  obtain ⟨c, hc, hci, hcs⟩ : ∃ c : Int, ((¬ a < 0 ∧ c = a) ∨ (a < 0 ∧ sat (-a) = max a (sat (-a)))) ∧ I64 c ∧ sat c = max a (sat (-a)) := by
    by_cases h : a < 0
    · exact ⟨-a, .inr ⟨h, by unfold sat; omega⟩, ik64 _ (by omega) (by omega), by unfold sat; omega⟩
    · exact ⟨a, .inl ⟨h, rfl⟩, ha.i64, by unfold sat; omega⟩
  exact matches_walk a b n l (dq a b) (de b) (sat (a * b / 65536)) (sat n) (sat (n * 65536)) (lim n l) (sat (a + b)) (sat (a - b)) (sat (-a)) (max a (sat (-a))) (a / 65536) (a - a / 65536 * 65536) c (a + b) (a - b) (-a) ha hb (by omega) hc rfl rfl rfl (by omega) (by omega) (by omega) (by omega) rfl
    (Lib.hid (div2 ha hb rfl rfl)) (Lib.hid (refdiv_any a b ha hb)) (Lib.hid (mul2 ha hb rfl)) (Lib.hid (refmul2_any a b ha hb)) (Lib.hid (sat1 hn rfl)) (Lib.hid (refsat_any n hn)) (Lib.hid (fro1 hn rfl)) (Lib.hid (reffrom_any n hn))
    (Lib.hid (fun h => lim2 hn h hl.2 rfl)) (Lib.hid (fun h => reflim_any n l hn h hl.2)) (Lib.hid (add2 ha hb rfl)) (Lib.hid (refsat_any _ (ik64 _ (by omega) (by omega)))) (Lib.hid (sub2 ha hb rfl)) (Lib.hid (refsat_any _ (ik64 _ (by omega) (by omega)))) (Lib.hid (neg1 ha rfl)) (Lib.hid (refsat_any _ (ik64 _ (by omega) (by omega))))
    (Lib.hid (abs1 ha rfl)) (Lib.hid (fun w => by rw [← hcs]; exact refsat_any c hci w)) (Lib.hid (flo1 ha rfl)) (Lib.hid (reffl_any a 65536 ha.i64 (by decide) (by decide))) (Lib.hid (fra1 ha rfl)) w
end Go.Proofs.Ytcachdbdcfjknaa
