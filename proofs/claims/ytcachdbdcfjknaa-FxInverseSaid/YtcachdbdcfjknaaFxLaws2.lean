/-
  The walks of four laws of package fx: FxMonotone, FxUnits, FxInverse, FxBounds.
-/
import Derived.Test.YtcachdbdcfjknaaFxLaws
namespace Go.Proofs.Ytcachdbdcfjknaa
open Go.RowKit Go.Lib

theorem sat_mono {x y : Int} (h : x ≤ y) : sat x ≤ sat y := by unfold sat; omega
theorem mul_mono {a b c : Int} (h : a ≤ b) (hc : 0 ≤ c) : sat (a * c / 65536) ≤ sat (b * c / 65536) :=
  sat_mono (Int.ediv_le_ediv (by decide) (Int.mul_le_mul_of_nonneg_right h hc))

set_option maxRecDepth 100000 in
set_option maxHeartbeats 2000000 in
theorem mono_walk (a b c n m p q r s A1 A2 S1 S2 T1 T2 F1 F2 M1 M2 : Int)
    (hab : (b < a ∧ p = b ∧ q = a) ∨ (¬ b < a ∧ p = a ∧ q = b)) (hnm : (m < n ∧ r = m ∧ s = n) ∨ (¬ m < n ∧ r = n ∧ s = m)) (hc : c < 0 ∨ (0 ≤ c ∧ M1 ≤ M2))
    (dA1 : Hid (Add2 p c A1)) (dA2 : Hid (Add2 q c A2)) (dS1 : Hid (Sub2 c p S1)) (dS2 : Hid (Sub2 c q S2)) (dT1 : Hid (Sat1 r T1)) (dT2 : Hid (Sat1 s T2)) (dF1 : Hid (Fro1 r F1)) (dF2 : Hid (Fro1 s F2)) (dM1 : Hid (Mul2 p c M1)) (dM2 : Hid (Mul2 q c M2))
    (lA : A1 ≤ A2) (lS : S2 ≤ S1) (lT : T1 ≤ T2) (lF : F1 ≤ F2) (w : World) :
    Calls Try.prog 5 #[.int .i32 a, .int .i32 b, .int .i32 c, .int .i64 n, .int .i64 m] w fun e w' => e = .returned (.bool true) ∧ Grown w w' := by
  rcases hab with ⟨ab, rfl, rfl⟩ | ⟨ab, rfl, rfl⟩ <;> rcases hnm with ⟨nm, rfl, rfl⟩ | ⟨nm, rfl, rfl⟩ <;> rcases hc with c0 | ⟨c0, lM⟩
  all_goals
    go_enter Try.func5, Try.ntmps5
    go_wp2_with (first
      | ((with_reducible refine (awake_any _).mono ?_); rintro e w1 ⟨rfl, g1⟩)
      | ((with_reducible refine (dA1.out _).mono ?_); rintro e w2 ⟨rfl, g2⟩)
      | ((with_reducible refine (dA2.out _).mono ?_); rintro e w3 ⟨rfl, g3⟩)
      | ((with_reducible refine (dS1.out _).mono ?_); rintro e w4 ⟨rfl, g4⟩)
      | ((with_reducible refine (dS2.out _).mono ?_); rintro e w5 ⟨rfl, g5⟩)
      | ((with_reducible refine (dT1.out _).mono ?_); rintro e w' ⟨rfl, rfl⟩)
      | ((with_reducible refine (dT2.out _).mono ?_); rintro e w' ⟨rfl, rfl⟩)
      | ((with_reducible refine (dF1.out _).mono ?_); rintro e w' ⟨rfl, rfl⟩)
      | ((with_reducible refine (dF2.out _).mono ?_); rintro e w' ⟨rfl, rfl⟩)
      | ((with_reducible refine (dM1.out _).mono ?_); rintro e w6 ⟨rfl, g6⟩)
      | ((with_reducible refine (dM2.out _).mono ?_); rintro e w7 ⟨rfl, g7⟩))
    go_ret
    first
      | exact ⟨rfl, grown_trans g1 (grown_trans g2 (grown_trans g3 (grown_trans g4 g5)))⟩
      | exact ⟨rfl, grown_trans g1 (grown_trans g2 (grown_trans g3 (grown_trans g4 (grown_trans g5 (grown_trans g6 g7)))))⟩

theorem monotone (a b c n m : Int) (ha : I32 a) (hb : I32 b) (hc : I32 c) (hn : I64 n) (hm : I64 m) (w : World) :
    Calls Try.prog 5 #[.int .i32 a, .int .i32 b, .int .i32 c, .int .i64 n, .int .i64 m] w fun e w' => e = .returned (.bool true) ∧ Grown w w' := by
  obtain ⟨p, q, hpq, hp, hq, lpq⟩ : ∃ p q : Int, ((b < a ∧ p = b ∧ q = a) ∨ (¬ b < a ∧ p = a ∧ q = b)) ∧ I32 p ∧ I32 q ∧ p ≤ q := by
    by_cases h : b < a
    · exact ⟨b, a, .inl ⟨h, rfl, rfl⟩, hb, ha, by omega⟩
    · exact ⟨a, b, .inr ⟨h, rfl, rfl⟩, ha, hb, by omega⟩
  obtain ⟨r, s, hrs, hr, hs, lrs⟩ : ∃ r s : Int, ((m < n ∧ r = m ∧ s = n) ∨ (¬ m < n ∧ r = n ∧ s = m)) ∧ I64 r ∧ I64 s ∧ r ≤ s := by
    by_cases h : m < n
    · exact ⟨m, n, .inl ⟨h, rfl, rfl⟩, hm, hn, by omega⟩
    · exact ⟨n, m, .inr ⟨h, rfl, rfl⟩, hn, hm, by omega⟩
  have h0 : c < 0 ∨ (0 ≤ c ∧ sat (p * c / 65536) ≤ sat (q * c / 65536)) := by
    by_cases h : c < 0
    · exact .inl h
    · exact .inr ⟨by omega, mul_mono lpq (by omega)⟩
  exact mono_walk a b c n m p q r s _ _ _ _ _ _ _ _ _ _ hpq hrs h0
    (Lib.hid (add2 hp hc rfl)) (Lib.hid (add2 hq hc rfl)) (Lib.hid (sub2 hc hp rfl)) (Lib.hid (sub2 hc hq rfl)) (Lib.hid (sat1 hr rfl)) (Lib.hid (sat1 hs rfl)) (Lib.hid (fro1 hr rfl)) (Lib.hid (fro1 hs rfl)) (Lib.hid (mul2 hp hc rfl)) (Lib.hid (mul2 hq hc rfl))
    (sat_mono (by omega)) (sat_mono (by omega)) (sat_mono lrs) (sat_mono (by omega)) w

theorem I32.mk {v : Int} (h1 : -2147483648 ≤ v) (h2 : v < 2147483648) : I32 v := ⟨h1, h2⟩

set_option maxRecDepth 100000 in
set_option maxHeartbeats 2000000 in
theorem units_walk (a n x f g : Int) (n0 : -32768 ≤ n) (n1 : n ≤ 32767) (f0 : 0 ≤ f) (f1 : f < 65536) (g0 : 0 ≤ g)
    (d1 : Hid (Div2 a 65536 a 0)) (d2 : Hid (Fro1 n x)) (d3 : Hid (Mul2 a 65536 a)) (d4 : Hid (Flo1 x n)) (d5 : Hid (Fra1 x 0)) (d6 : Hid (Fra1 a f)) (d7 : Hid (Abs1 a g)) (w : World) :
    Calls Try.prog 6 #[.int .i32 a, .int .i16 n] w fun e w' => e = .returned (.bool true) ∧ Grown w w' := by
  go_enter Try.func6, Try.ntmps6
  go_wp2_with (first
    | ((with_reducible refine (awake_any _).mono ?_); rintro e w1 ⟨rfl, g1⟩)
    | ((with_reducible refine (d1.out _).mono ?_); rintro e w2 ⟨rfl, g2⟩)
    | ((with_reducible refine (d2.out _).mono ?_); rintro e w' ⟨rfl, rfl⟩)
    | ((with_reducible refine (d3.out _).mono ?_); rintro e w3 ⟨rfl, g3⟩)
    | ((with_reducible refine (d4.out _).mono ?_); rintro e w' ⟨rfl, rfl⟩)
    | ((with_reducible refine (d5.out _).mono ?_); rintro e w' ⟨rfl, rfl⟩)
    | ((with_reducible refine (d6.out _).mono ?_); rintro e w' ⟨rfl, rfl⟩)
    | ((with_reducible refine (d7.out _).mono ?_); rintro e w4 ⟨rfl, g4⟩))
  go_ret
  exact ⟨rfl, grown_trans g1 (grown_trans g2 (grown_trans g3 g4))⟩

theorem units (a n : Int) (ha : I32 a) (n0 : -32768 ≤ n) (n1 : n ≤ 32767) (w : World) :
    Calls Try.prog 6 #[.int .i32 a, .int .i16 n] w fun e w' => e = .returned (.bool true) ∧ Grown w w' := by
  have e1 : dq a 65536 = a := by
    unfold dq; rw [if_neg (by decide)]; unfold fl; rw [if_neg (by decide), Int.mul_ediv_cancel _ (by decide)]; exact sat_of ha
  have e3 : sat (a * 65536 / 65536) = a := by rw [Int.mul_ediv_cancel _ (by decide)]; exact sat_of ha
  have hx : I32 (n * 65536) := ⟨by omega, by omega⟩
  have h1 := ha.1; have h2 := ha.2
  exact units_walk a n (n * 65536) (a - a / 65536 * 65536) (max a (sat (-a))) n0 n1 (by omega) (by omega) (by unfold sat; omega)
    (Lib.hid (div2 ha (ik32 _) e1 (by decide))) (Lib.hid (fro1 (ik64 n (by omega) (by omega)) (sat_of hx))) (Lib.hid (mul2 ha (ik32 _) e3)) (Lib.hid (flo1 hx (Int.mul_ediv_cancel _ (by decide)))) (Lib.hid (fra1 hx (by omega))) (Lib.hid (fra1 ha rfl)) (Lib.hid (abs1 ha rfl)) w

set_option maxRecDepth 100000 in
theorem inverse_no (a b : Int) (hb : b ≤ 0) (w : World) :
    Calls Try.prog 7 #[.int .i32 a, .int .i32 b] w fun e w' => e = .returned (.bool true) ∧ Grown w w' := by
  go_enter Try.func7, Try.ntmps7
  go_wp2_with fail
  refine (awake_any _).mono ?_
  rintro e w1 ⟨rfl, g1⟩
  go_wp2_with fail
  refine (awake_any _).mono ?_
  rintro e w2 ⟨rfl, g2⟩
  go_wp2_with fail
  go_ret
  exact ⟨rfl, grown_trans g1 g2⟩

set_option maxRecDepth 100000 in
set_option maxHeartbeats 2000000 in
theorem inverse_walk (a b q m : Int) (ha : I32 a) (hb : 0 < b) (hb1 : b < 2147483648) (hq : (q == 2147483647) = true ∨ ((q == 2147483647) = false ∧ (q == -2147483648) = true) ∨ ((q == 2147483647) = false ∧ (q == -2147483648) = false))
    (m0 : -2147483648 ≤ m) (m1 : m < 2147483648) (d1 : Hid (Div2 a b q 0)) (d2 : Hid (Mul2 q b m)) (h : ((q == 2147483647) = false ∧ (q == -2147483648) = false) → 0 ≤ a - m ∧ a - m ≤ b / 65536 + 1) (w : World) :
    Calls Try.prog 7 #[.int .i32 a, .int .i32 b] w fun e w' => e = .returned (.bool true) ∧ Grown w w' := by
  obtain ⟨a0, a1⟩ := ha
  rcases hq with q0 | ⟨q0, q1⟩ | ⟨q0, q1⟩
  · clear h
    go_enter Try.func7, Try.ntmps7
    go_wp2_with (first
      | ((with_reducible refine (awake_any _).mono ?_); rintro e w1 ⟨rfl, g1⟩)
      | ((with_reducible refine (d1.out _).mono ?_); rintro e w2 ⟨rfl, g2⟩))
    go_ret
    exact ⟨rfl, grown_trans g1 g2⟩
  · clear h
    go_enter Try.func7, Try.ntmps7
    go_wp2_with (first
      | ((with_reducible refine (awake_any _).mono ?_); rintro e w1 ⟨rfl, g1⟩)
      | ((with_reducible refine (d1.out _).mono ?_); rintro e w2 ⟨rfl, g2⟩))
    go_ret
    exact ⟨rfl, grown_trans g1 g2⟩
  · obtain ⟨h0, h1⟩ := h ⟨q0, q1⟩
    go_enter Try.func7, Try.ntmps7
    go_wp2_with (first
      | ((with_reducible refine (awake_any _).mono ?_); rintro e w1 ⟨rfl, g1⟩)
      | ((with_reducible refine (d1.out _).mono ?_); rintro e w2 ⟨rfl, g2⟩)
      | ((with_reducible refine (d2.out _).mono ?_); rintro e w3 ⟨rfl, g3⟩))
    go_ret
    exact ⟨rfl, grown_trans g1 (grown_trans g2 g3)⟩

theorem inverse (a b : Int) (ha : I32 a) (hb : I32 b) (w : World) :
    Calls Try.prog 7 #[.int .i32 a, .int .i32 b] w fun e w' => e = .returned (.bool true) ∧ Grown w w' := by
  by_cases h0 : b ≤ 0
  · exact inverse_no a b h0 w
  · obtain ⟨F, hF⟩ : ∃ F, F = a * 65536 / b := ⟨_, rfl⟩
    have e1 : dq a b = sat F := by unfold dq; rw [if_neg (by omega)]; unfold fl; rw [if_neg (by omega), hF]
    have hs := sat_in F
    obtain ⟨P, hP⟩ : ∃ P, P = F * b := ⟨_, rfl⟩
    have l1 : P ≤ a * 65536 := by rw [hP, hF]; exact Int.ediv_mul_le _ (by omega)
    have l2 : a * 65536 < P + b := by rw [hP, hF]; have := Int.lt_ediv_add_one_mul_self (a * 65536) (show 0 < b by omega); rw [Int.add_mul, Int.one_mul] at this; exact this
    obtain ⟨m, hm⟩ : ∃ m, m = sat (sat F * b / 65536) := ⟨_, rfl⟩
    have hmi := sat_in (sat F * b / 65536)
    rw [← hm] at hmi
    have ha1 := ha.1; have ha2 := ha.2
    refine inverse_walk a b (sat F) m ha (by omega) hb.2 ?_ hmi.1 hmi.2 (Lib.hid (div2 ha hb e1 (by unfold de; rw [if_neg (by omega)]))) (Lib.hid (mul2 hs hb hm.symm)) ?_ w
    · cases (sat F == 2147483647) <;> cases (sat F == -2147483648) <;> simp
    · rintro ⟨q0, q1⟩
      have q0' : sat F ≠ 2147483647 := by simpa using q0
      have q1' : sat F ≠ -2147483648 := by simpa using q1
      have eF : sat F = F := by unfold sat at q0' q1' ⊢; omega
      rw [eF, ← hP] at hm
      rw [hm]; unfold sat; omega
end Go.Proofs.Ytcachdbdcfjknaa
