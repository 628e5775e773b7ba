/-
  Package point: the arithmetic of nearest points (no program).
-/
import Derived.Test.YtlcenopebgkjgaaRootArith
namespace Go.Proofs.Ytlcenopebgkjgaa

/-- A number limited to the range from 0 to d. -/
def limP (n d : Int) : Int := if n < 0 then 0 else if d < n then d else n
def dtP (ax ay bx b_y : Int) : Int := ax * bx + ay * b_y
def sqP (dx dy : Int) : Int := dx * dx + dy * dy
/-- The numerator of the parameter: (ux, uy) from p to c, (dx, dy) from p to q. -/
def paP (ux uy dx dy : Int) : Int := limP (ux * dx + uy * dy) (sqP dx dy)
/-- What the nearest point is away from p, in one direction. -/
def stP (dx n d : Int) : Int := if d = 0 then 0 else dx * n / d
def nrP (px d n s : Int) : Int := px + stP d n s
theorem limP_in {n d : Int} (h : 0 ≤ d) : 0 ≤ limP n d ∧ limP n d ≤ d := by
  unfold limP
  split
  · omega
  · split <;> omega
theorem sqP_nn (dx dy : Int) : 0 ≤ sqP dx dy := by
  unfold sqP
  have h1 : 0 ≤ dx * dx := by rcases Int.le_total 0 dx with h | h; exact Int.mul_nonneg h h; exact Int.mul_nonneg_of_nonpos_of_nonpos h h
  have h2 : 0 ≤ dy * dy := by rcases Int.le_total 0 dy with h | h; exact Int.mul_nonneg h h; exact Int.mul_nonneg_of_nonpos_of_nonpos h h
  omega
theorem sqP_zero {dx dy : Int} (h : sqP dx dy = 0) : dx = 0 ∧ dy = 0 := by
  unfold sqP at h
  have h1 : 0 ≤ dx * dx := by rcases Int.le_total 0 dx with h | h; exact Int.mul_nonneg h h; exact Int.mul_nonneg_of_nonpos_of_nonpos h h
  have h2 : 0 ≤ dy * dy := by rcases Int.le_total 0 dy with h | h; exact Int.mul_nonneg h h; exact Int.mul_nonneg_of_nonpos_of_nonpos h h
  have e1 : dx * dx = 0 := by omega
  have e2 : dy * dy = 0 := by omega
  rcases Int.mul_eq_zero.1 e1 with a | a <;> rcases Int.mul_eq_zero.1 e2 with b | b <;> exact ⟨a, b⟩
theorem paP_in (ux uy dx dy : Int) : 0 ≤ paP ux uy dx dy ∧ paP ux uy dx dy ≤ sqP dx dy := limP_in (sqP_nn dx dy)
/-- A step lies between 0 and dx. -/
theorem stP_in {dx n d : Int} (h0 : 0 ≤ n) (h1 : n ≤ d) : min 0 dx ≤ stP dx n d ∧ stP dx n d ≤ max 0 dx := by
  unfold stP
  split
  · omega
  · have hd : 0 < d := by omega
    have e1 : dx * d / d = dx := Int.mul_ediv_cancel dx (by omega)
    have e2 : (0 : Int) * d / d = 0 := by simp
    rcases Int.le_total 0 dx with c | c
    · have a1 : dx * n ≤ dx * d := Int.mul_le_mul_of_nonneg_left h1 c
      have a2 : 0 ≤ dx * n := Int.mul_nonneg c h0
      have b1 := Int.ediv_le_ediv hd a1
      have b2 := Int.ediv_nonneg a2 (by omega : 0 ≤ d)
      rw [e1] at b1
      omega
    · have a1 : dx * d ≤ dx * n := Int.mul_le_mul_of_nonpos_left c h1
      have a2 : dx * n ≤ 0 := Int.mul_nonpos_of_nonpos_of_nonneg c h0
      have b1 := Int.ediv_le_ediv hd a1
      have b2 := Int.ediv_le_ediv hd (show dx * n ≤ 0 * d by omega)
      rw [e1] at b1
      rw [e2] at b2
      omega
theorem stP_zero (dx d : Int) : stP dx 0 d = 0 := by
  unfold stP
  split
  · rfl
  · simp
theorem stP_full {dx d : Int} (h : d ≠ 0) : stP dx d d = dx := by
  unfold stP
  rw [if_neg h]
  exact Int.mul_ediv_cancel dx h
/-- The other way round: the same point. -/
theorem stP_turn {dx n d : Int} (h : 0 < d) : dx + stP (-dx) (d - n) d = stP dx n d := by
  unfold stP
  rw [if_neg (by omega), if_neg (by omega)]
  have e : -dx * (d - n) = dx * n + (-dx) * d := by rw [Int.mul_sub, Int.neg_mul, Int.neg_mul]; omega
  rw [e, Int.add_mul_ediv_right _ _ (by omega)]
  omega
theorem limP_turn {n d : Int} (h : 0 ≤ d) : limP (d - n) d = d - limP n d := by
  unfold limP
  repeat' split
  all_goals omega
theorem paP_turn (ux uy dx dy : Int) : paP (ux - dx) (uy - dy) (-dx) (-dy) = sqP dx dy - paP ux uy dx dy := by
  unfold paP
  have e1 : sqP (-dx) (-dy) = sqP dx dy := by unfold sqP; rw [Int.neg_mul_neg, Int.neg_mul_neg]
  have e2 : (ux - dx) * -dx + (uy - dy) * -dy = sqP dx dy - (ux * dx + uy * dy) := by
    unfold sqP
    rw [Int.sub_mul, Int.sub_mul, Int.mul_neg, Int.mul_neg, Int.mul_neg, Int.mul_neg]
    omega
  rw [e1, e2]
  exact limP_turn (sqP_nn dx dy)
theorem abs_mul_le {F e d A : Int} (he : 0 ≤ e ∧ e ≤ d) (hA : F ≤ A ∧ -F ≤ A) : -(F * e) ≤ A * d := by
  have hA0 : 0 ≤ A := by omega
  have h1 : -F * e ≤ A * e := Int.mul_le_mul_of_nonneg_right hA.2 he.1
  have h2 : A * e ≤ A * d := Int.mul_le_mul_of_nonneg_left he.2 hA0
  rw [Int.neg_mul] at h1
  omega
theorem near_core {F1 F2 ex ey d a b U r : Int} (hd : 0 < d) (h1 : d * a = F1 - ex) (h2 : d * b = F2 - ey) (hex : 0 ≤ ex ∧ ex ≤ d) (hey : 0 ≤ ey ∧ ey ≤ d) (hF : F1 * F1 + F2 * F2 ≤ d * d * U) (hU : U < (r + 1) * (r + 1)) (hr : 0 ≤ r) : a * a + b * b < (r + 3) * (r + 3) := by
  obtain ⟨A1, hA1⟩ : ∃ A, A = max F1 (-F1) := ⟨_, rfl⟩
  obtain ⟨A2, hA2⟩ : ∃ A, A = max F2 (-F2) := ⟨_, rfl⟩
  have a1 : F1 ≤ A1 ∧ -F1 ≤ A1 := by omega
  have a2 : F2 ≤ A2 ∧ -F2 ≤ A2 := by omega
  have q1 : A1 * A1 = F1 * F1 := by
    rcases Int.le_total 0 F1 with c | c
    · rw [show A1 = F1 by omega]
    · rw [show A1 = -F1 by omega, Int.neg_mul_neg]
  have q2 : A2 * A2 = F2 * F2 := by
    rcases Int.le_total 0 F2 with c | c
    · rw [show A2 = F2 by omega]
    · rw [show A2 = -F2 by omega, Int.neg_mul_neg]
  have p1 := abs_mul_le hex a1
  have p2 := abs_mul_le hey a2
  have e1 : ex * ex ≤ d * d := Int.mul_le_mul hex.2 hex.2 hex.1 (by omega)
  have e2 : ey * ey ≤ d * d := Int.mul_le_mul hey.2 hey.2 hey.1 (by omega)
  have hdd : 0 < d * d := Int.mul_pos hd hd
  have s1 : d * d * (a * a + b * b) = (F1 - ex) * (F1 - ex) + (F2 - ey) * (F2 - ey) := by rw [← h1, ← h2]; grind
  have s2 : (F1 - ex) * (F1 - ex) + (F2 - ey) * (F2 - ey) = F1 * F1 + F2 * F2 + 2 * (-(F1 * ex)) + 2 * (-(F2 * ey)) + ex * ex + ey * ey := by grind
  obtain ⟨G, hG⟩ : ∃ G, G = A1 + A2 := ⟨_, rfl⟩
  have hG0 : 0 ≤ G := by omega
  have g1 : G * G ≤ 2 * (A1 * A1 + A2 * A2) := by
    have : 0 ≤ (A1 - A2) * (A1 - A2) := by
      rcases Int.le_total 0 (A1 - A2) with c | c
      · exact Int.mul_nonneg c c
      · exact Int.mul_nonneg_of_nonpos_of_nonpos c c
    have e : 2 * (A1 * A1 + A2 * A2) - G * G = (A1 - A2) * (A1 - A2) := by rw [hG]; grind
    omega
  have hdu : d * d * U ≤ d * d * ((r + 1) * (r + 1)) := Int.mul_le_mul_of_nonneg_left (by omega) (by omega)
  have g2 : G * G ≤ 2 * (d * d * ((r + 1) * (r + 1))) := by rw [q1, q2] at g1; omega
  have g3 : 2 * G ≤ 3 * (d * (r + 1)) := by
    apply Int.not_lt.1
    intro c
    obtain ⟨X, hX⟩ : ∃ X, X = d * (r + 1) := ⟨_, rfl⟩
    rw [← hX] at c
    have hX0 : 0 ≤ X := by rw [hX]; exact Int.mul_nonneg (by omega) (by omega)
    have e : d * d * ((r + 1) * (r + 1)) = X * X := by rw [hX]; grind
    rw [e] at g2
    have m1 : 3 * X * (3 * X) < 2 * G * (2 * G) := Int.mul_lt_mul' (by omega) c (by omega) (by omega)
    have e3 : 3 * X * (3 * X) = 9 * (X * X) := by grind
    have e4 : 2 * G * (2 * G) = 4 * (G * G) := by grind
    have : 0 ≤ X * X := Int.mul_nonneg hX0 hX0
    omega
  have g4 : G * d * 2 ≤ 3 * (d * d * (r + 1)) := by
    have := Int.mul_le_mul_of_nonneg_right g3 (show 0 ≤ d by omega)
    have e : 3 * (d * (r + 1)) * d = 3 * (d * d * (r + 1)) := by grind
    have e' : 2 * G * d = G * d * 2 := by grind
    omega
  have eG : A1 * d + A2 * d = G * d := by rw [hG, Int.add_mul]
  have fin : d * d * (a * a + b * b) ≤ d * d * (U + 3 * (r + 1) + 2) := by
    have e : d * d * (U + 3 * (r + 1) + 2) = d * d * U + 3 * (d * d * (r + 1)) + 2 * (d * d) := by grind
    rw [s1, s2, e]
    omega
  have := Int.le_of_mul_le_mul_left fin hdd
  have e5 : (r + 3) * (r + 3) = (r + 1) * (r + 1) + 4 * (r + 1) + 4 := by grind
  omega
/-- The nearest point is hardly farther away than the end p. -/
theorem near_len {ux uy dx dy r : Int} (hU : ux * ux + uy * uy < (r + 1) * (r + 1)) (hr : 0 ≤ r) :
    (stP dx (paP ux uy dx dy) (sqP dx dy) - ux) * (stP dx (paP ux uy dx dy) (sqP dx dy) - ux) + (stP dy (paP ux uy dx dy) (sqP dx dy) - uy) * (stP dy (paP ux uy dx dy) (sqP dx dy) - uy) < (r + 3) * (r + 3) := by
  obtain ⟨n0, n1⟩ := paP_in ux uy dx dy
  have hd := sqP_nn dx dy
  by_cases hz : sqP dx dy = 0
  · unfold stP
    rw [if_pos hz, if_pos hz]
    have e1 : (0 - ux) * (0 - ux) = ux * ux := by grind
    have e2 : (0 - uy) * (0 - uy) = uy * uy := by grind
    have e5 : (r + 3) * (r + 3) = (r + 1) * (r + 1) + 4 * (r + 1) + 4 := by grind
    omega
  obtain ⟨n, hn⟩ : ∃ n, n = paP ux uy dx dy := ⟨_, rfl⟩
  obtain ⟨d, hdd⟩ : ∃ d, d = sqP dx dy := ⟨_, rfl⟩
  have hd0 : 0 < d := by omega
  rw [← hn] at n0 n1 ⊢
  rw [← hdd] at n1 ⊢
  unfold stP
  rw [if_neg (by omega), if_neg (by omega)]
  have m1 := Int.emod_nonneg (dx * n) (show d ≠ 0 by omega)
  have m2 := Int.emod_lt_of_pos (dx * n) hd0
  have m3 := Int.emod_nonneg (dy * n) (show d ≠ 0 by omega)
  have m4 := Int.emod_lt_of_pos (dy * n) hd0
  have k1 := Int.mul_ediv_add_emod (dx * n) d
  have k2 := Int.mul_ediv_add_emod (dy * n) d
  refine near_core (F1 := dx * n - d * ux) (F2 := dy * n - d * uy) (ex := dx * n % d) (ey := dy * n % d) (d := d) (U := ux * ux + uy * uy) hd0 ?_ ?_ ⟨m1, by omega⟩ ⟨m3, by omega⟩ ?_ hU hr
  · rw [Int.mul_sub]; omega
  · rw [Int.mul_sub]; omega
  · obtain ⟨t, ht⟩ : ∃ t, t = ux * dx + uy * dy := ⟨_, rfl⟩
    have e : (dx * n - d * ux) * (dx * n - d * ux) + (dy * n - d * uy) * (dy * n - d * uy) = d * d * (ux * ux + uy * uy) + d * (n * (n - 2 * t)) := by
      have : (dx * n - d * ux) * (dx * n - d * ux) + (dy * n - d * uy) * (dy * n - d * uy) = n * n * (dx * dx + dy * dy) - 2 * (n * d) * (ux * dx + uy * dy) + d * d * (ux * ux + uy * uy) := by grind
      rw [this, ← ht, show dx * dx + dy * dy = d from hdd.symm]
      grind
    rw [e]
    have hk : n * (n - 2 * t) ≤ 0 := by
      unfold paP limP at hn
      rw [← ht, ← hdd] at hn
      split at hn
      · rw [hn]; simp
      · split at hn
        · exact Int.mul_nonpos_of_nonneg_of_nonpos n0 (by omega)
        · exact Int.mul_nonpos_of_nonneg_of_nonpos n0 (by omega)
    have := Int.mul_nonpos_of_nonneg_of_nonpos (show 0 ≤ d by omega) hk
    omega
end Go.Proofs.Ytlcenopebgkjgaa
