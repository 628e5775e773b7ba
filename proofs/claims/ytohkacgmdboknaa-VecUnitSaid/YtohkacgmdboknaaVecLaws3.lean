/-
  Package vec: the walk of the law VecUnit.
-/
import Derived.Test.YtohkacgmdboknaaVecCon
namespace Go.Proofs.Ytohkacgmdboknaa
open Go.RowKit Go.Lib

set_option maxHeartbeats 1000000 in
theorem unit_out0 (a b : Int) (A : Hid Awake) (I0 : Hid (In1 a false)) (w : World) :
    Calls Try.prog 4 #[.int .i64 a, .int .i64 b] w fun e w' => e = .returned (.bool true) ∧ Grown w w' := by
  go_enter Try.func4, Try.ntmps4
  go_wp2_with (first
    | ((with_reducible refine (I0.out _).mono ?_); rintro e w' ⟨rfl, rfl⟩)
    | ((with_reducible refine (A.out _).mono ?_); rintro e w' ⟨rfl, gA⟩))
  go_ret
  exact ⟨rfl, grown_trans (by assumption) gA⟩

set_option maxHeartbeats 1000000 in
theorem unit_out1 (a b : Int) (A : Hid Awake) (I0 : Hid (In1 a true)) (I1 : Hid (In1 b false)) (w : World) :
    Calls Try.prog 4 #[.int .i64 a, .int .i64 b] w fun e w' => e = .returned (.bool true) ∧ Grown w w' := by
  go_enter Try.func4, Try.ntmps4
  go_wp2_with (first
    | ((with_reducible refine (I0.out _).mono ?_); rintro e w' ⟨rfl, rfl⟩)
    | ((with_reducible refine (I1.out _).mono ?_); rintro e w' ⟨rfl, rfl⟩)
    | ((with_reducible refine (A.out _).mono ?_); rintro e w' ⟨rfl, gA⟩))
  go_ret
  exact ⟨rfl, grown_trans (by assumption) gA⟩

set_option maxHeartbeats 1000000 in
theorem unit_walk0 (a b : Int) (A : Hid Awake) (I1 : Hid (In1 a true)) (I2 : Hid (In1 b true)) (C1 : Hid (Uni2 a b 65536 0)) (C2 : Hid (Len2 a b 0)) (w : World) :
    Calls Try.prog 4 #[.int .i64 a, .int .i64 b] w fun e w' => e = .returned (.bool true) ∧ Grown w w' := by
  go_enter Try.func4, Try.ntmps4
  go_wp2_with (first
    | ((with_reducible refine (A.out _).mono ?_); rintro e w1 ⟨rfl, g1⟩)
    | ((with_reducible refine (I1.out _).mono ?_); rintro e w' ⟨rfl, rfl⟩)
    | ((with_reducible refine (I2.out _).mono ?_); rintro e w' ⟨rfl, rfl⟩)
    | ((with_reducible refine (C1.out _).mono ?_); rintro e w2 ⟨rfl, g2⟩)
    | ((with_reducible refine (C2.out _).mono ?_); rintro e w' ⟨rfl, rfl⟩))
  go_ret
  exact ⟨rfl, (grown_trans g1 g2).alloc _ _⟩

set_option maxHeartbeats 2000000 in
theorem unit_walk (a b n x y s : Int) (A : Hid Awake) (I1 : Hid (In1 a true)) (I2 : Hid (In1 b true)) (C1 : Hid (Uni2 a b x y)) (C2 : Hid (Len2 a b n)) (C3 : Hid (Lsq2 x y s)) (h0 : 0 < n)
    (hx : (0 ≤ a ∧ 0 ≤ x) ∨ (a < 0 ∧ x < 0)) (hy : (0 ≤ b ∧ 0 ≤ y) ∨ (b < 0 ∧ y < 0)) (x1 : -65536 ≤ x) (x2 : x ≤ 65536) (y1 : -65536 ≤ y) (y2 : y ≤ 65536) (hs0 : 0 ≤ s) (hs1 : s ≤ 8589934592)
    (hn : n < 4096 ∨ (4096 ≤ n ∧ 4290672329 ≤ s ∧ s ≤ 4299262263)) (w : World) :
    Calls Try.prog 4 #[.int .i64 a, .int .i64 b] w fun e w' => e = .returned (.bool true) ∧ Grown w w' := by
  have f1 : IntKind.i64.wrap s = s := by rw [IntKind.wrap_i64]; omega
  have hz : (n == 0) = false := by simp; omega
  rcases hx with ⟨c1, c2⟩ | ⟨c1, c2⟩ <;> rcases hy with ⟨c3, c4⟩ | ⟨c3, c4⟩ <;> rcases hn with c5 | ⟨c5, c6, c7⟩
  all_goals
    go_enter Try.func4, Try.ntmps4
    go_wp2_with (first
      | ((with_reducible refine (A.out _).mono ?_); rintro e w1 ⟨rfl, g1⟩)
      | ((with_reducible refine (I1.out _).mono ?_); rintro e w' ⟨rfl, rfl⟩)
      | ((with_reducible refine (I2.out _).mono ?_); rintro e w' ⟨rfl, rfl⟩)
      | ((with_reducible refine (C1.out _).mono ?_); rintro e w2 ⟨rfl, g2⟩)
      | ((with_reducible refine (C2.out _).mono ?_); rintro e w' ⟨rfl, rfl⟩)
      | ((with_reducible refine (C3.out _).mono ?_); rintro e w' ⟨rfl, rfl⟩))
    go_ret
    exact ⟨rfl, (grown_trans g1 g2).alloc _ _⟩

theorem un_sign {d n : Int} (h : 0 < n) : (0 ≤ d ∧ 0 ≤ un d n) ∨ (d < 0 ∧ un d n < 0) := by
  unfold un
  by_cases c : 0 ≤ d
  · exact .inl ⟨c, Int.ediv_nonneg (by omega) (by omega)⟩
  · exact .inr ⟨by omega, Int.ediv_neg_of_neg_of_pos (by omega) h⟩

theorem unit_all (a b : Int) (w : World) : Calls Try.prog 4 #[.int .i64 a, .int .i64 b] w fun e w' => e = .returned (.bool true) ∧ Grown w w' := by
  by_cases ha : InD a
  · by_cases hb : InD b
    · have hl := lsq_in ha hb
      have R := rt_is hl.1
      have g := root_ge R
      by_cases hz : rt (lsq a b) = 0
      · have U := uni2 (x := 65536) (y := 0) ha hb R (by rw [hz]; rfl) (by rw [hz]; rfl)
        have L := len2 ha hb R
        rw [hz] at L
        exact unit_walk0 a b (Lib.hid awake_any) (Lib.hid (in1 ha)) (Lib.hid (in1 hb)) (Lib.hid U) (Lib.hid L) w
      · have h0 : 0 < rt (lsq a b) := by have := R.1; omega
        obtain ⟨n, hn⟩ : ∃ n, n = rt (lsq a b) := ⟨_, rfl⟩
        rw [← hn] at h0 g R hz
        have ux1 := un_in h0 g.1.1 g.1.2
        have uy1 := un_in h0 g.2.1 g.2.2
        have sx := un_sign (d := a) h0
        have sy := un_sign (d := b) h0
        have U := uni2 (x := un a n) (y := un b n) ha hb R (if_neg hz) (if_neg hz)
        have L := len2 ha hb R
        have dx : InD (un a n) := ⟨by omega, by omega⟩
        have dy : InD (un b n) := ⟨by omega, by omega⟩
        have hb1 : lsq (un a n) (un b n) ≤ 8589934592 := by
          have k : ∀ v : Int, -65536 ≤ v → v ≤ 65536 → v * v ≤ 4294967296 := fun v p q => by
            by_cases c : 0 ≤ v
            · exact Int.mul_le_mul q q c (by decide)
            · rw [← Int.neg_mul_neg]; exact Int.mul_le_mul (show -v ≤ 65536 by omega) (show -v ≤ 65536 by omega) (by omega) (by decide)
          have := k _ ux1.1 ux1.2; have := k _ uy1.1 uy1.2; unfold lsq; omega
        refine unit_walk a b n (un a n) (un b n) _ (Lib.hid awake_any) (Lib.hid (in1 ha)) (Lib.hid (in1 hb)) (Lib.hid U) (Lib.hid L) (Lib.hid (lsq2 dx dy rfl)) h0 sx sy ux1.1 ux1.2 uy1.1 uy1.2 (lsq_in dx dy).1 hb1 ?_ w
        by_cases c : n < 4096
        · exact .inl c
        · have q := un_sq R (by omega) rfl rfl
          exact .inr ⟨by omega, q.1, q.2⟩
    · exact unit_out1 a b (Lib.hid awake_any) (Lib.hid (in1 ha)) (Lib.hid (in0 hb)) w
  · exact unit_out0 a b (Lib.hid awake_any) (Lib.hid (in0 ha)) w
end Go.Proofs.Ytohkacgmdboknaa
