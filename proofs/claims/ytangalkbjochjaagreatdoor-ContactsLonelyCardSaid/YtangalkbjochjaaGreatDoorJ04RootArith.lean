import Derived.Test.YtangalkbjochjaaGreatDoorProg
import Derived.WalkKit
import Derived.Lib.EndianBits
import Derived.Lib.Walk
import Derived.Lib.Hide
import Derived.Lib.Small
import Derived.Laws.Bits64b
import Derived.Test.YtangalkbjochjaaGreatDoorJ02Seq
import Derived.Test.YtangalkbjochjaaGreatDoorJ00Bits
import Derived.Deep.QuietTactic
import Derived.BigQuiet
import Derived.Deep.RegionHeld3
import Derived.StillTailTactics

/-! J04RootArith: RootArith, PointMath, SegMath, Root, RootRef, RootCon, VecEach, Vec, VecLen, VecRef, VecArith, VecCon. -/

section
/-
  Whole square roots: plain arithmetic, of no program.
-/
namespace Go.Proofs.YtangalkbjochjaaGreatDoor

/-- r is the greatest number whose square is at most n. -/
def IsRoot (r n : Int) : Prop := 0 ≤ r ∧ r * r ≤ n ∧ n < (r + 1) * (r + 1)
theorem sq_le {a b : Int} (h0 : 0 ≤ a) (h : a ≤ b) : a * a ≤ b * b := Int.mul_le_mul h h h0 (by omega)
theorem IsRoot.iff {r n t : Int} (h : IsRoot r n) (ht : 0 ≤ t) : t * t ≤ n ↔ t ≤ r := by
  obtain ⟨h0, h1, h2⟩ := h
  constructor
  · intro c
    by_cases d : t ≤ r
    · exact d
    · have := sq_le (a := r + 1) (b := t) (by omega) (by omega); omega
  · intro c
    have := sq_le ht c
    omega
theorem IsRoot.unique {r s n : Int} (h : IsRoot r n) (g : IsRoot s n) : r = s := by
  have a := (h.iff g.1).mp g.2.1
  have b := (g.iff h.1).mp h.2.1
  omega
theorem IsRoot.mono {r s n m : Int} (h : IsRoot r n) (g : IsRoot s m) (hn : n ≤ m) : r ≤ s :=
  (g.iff h.1).mp (Int.le_trans h.2.1 hn)
theorem IsRoot.le_max {r n : Int} (h : IsRoot r n) (hn : n < 18446744073709551616) : r ≤ 4294967295 := by
  by_cases c : r ≤ 4294967295
  · exact c
  · have := (h.iff (t := 4294967296) (by decide)).mpr (by omega)
    omega
/-- The root of a natural number, counted up. -/
def rtN : Nat → Nat
  | 0 => 0
  | n + 1 => if (rtN n + 1) * (rtN n + 1) ≤ n + 1 then rtN n + 1 else rtN n

theorem rtN_is : ∀ n : Nat, rtN n * rtN n ≤ n ∧ n < (rtN n + 1) * (rtN n + 1)
  | 0 => by decide
  | n + 1 => by
    obtain ⟨a, b⟩ := rtN_is n
    rw [rtN]
    split
    · rename_i c
      refine ⟨c, ?_⟩
      have e : (rtN n + 1 + 1) * (rtN n + 1 + 1) = (rtN n + 1) * (rtN n + 1) + 2 * (rtN n + 1) + 1 := by rw [Nat.add_mul, Nat.mul_add]; omega
      omega
    · exact ⟨by omega, by omega⟩

/-- The whole square root of a number. -/
def rt (n : Int) : Int := (rtN n.toNat : Int)

theorem rt_is {n : Int} (h : 0 ≤ n) : IsRoot (rt n) n := by
  obtain ⟨m, rfl⟩ := Int.eq_ofNat_of_zero_le h
  obtain ⟨a, b⟩ := rtN_is m
  have e : rt (m : Int) = (rtN m : Int) := rfl
  rw [e]
  refine ⟨by omega, ?_, ?_⟩
  · rw [← Int.natCast_mul]; omega
  · have : ((rtN m : Int) + 1) * ((rtN m : Int) + 1) = (((rtN m + 1) * (rtN m + 1) : Nat) : Int) := by rw [Int.natCast_mul]; rfl
    rw [this]; omega
end Go.Proofs.YtangalkbjochjaaGreatDoor
end

section
/-
  Package point: the arithmetic of nearest points (no program).
-/
namespace Go.Proofs.YtangalkbjochjaaGreatDoor

/-- A number limited to the range from 0 to d. -/
def limP (n d : Int) : Int := if n < 0 then 0 else if d < n then d else n
def dtP (ax ay bx b_y : Int) : Int := ax * bx + ay * b_y
def sqP (dx dy : Int) : Int := dx * dx + dy * dy
/-- The numerator of the parameter: (ux, uy) from p to c, (dx, dy) from p to q. -/
def paP (ux uy dx dy : Int) : Int := limP (ux * dx + uy * dy) (sqP dx dy)
/-- What the nearest point is away from p, in one direction. -/
def stP (dx n d : Int) : Int := if d = 0 then 0 else dx * n / d
def nrP (px d n s : Int) : Int := px + stP d n s
theorem limP_in {n d : Int} (h : 0 ≤ d) : 0 ≤ limP n d ∧ limP n d ≤ d := by
  unfold limP
  split
  · omega
  · split <;> omega
theorem sqP_nn (dx dy : Int) : 0 ≤ sqP dx dy := by
  unfold sqP
  have h1 : 0 ≤ dx * dx := by rcases Int.le_total 0 dx with h | h; exact Int.mul_nonneg h h; exact Int.mul_nonneg_of_nonpos_of_nonpos h h
  have h2 : 0 ≤ dy * dy := by rcases Int.le_total 0 dy with h | h; exact Int.mul_nonneg h h; exact Int.mul_nonneg_of_nonpos_of_nonpos h h
  omega
theorem sqP_zero {dx dy : Int} (h : sqP dx dy = 0) : dx = 0 ∧ dy = 0 := by
  unfold sqP at h
  have h1 : 0 ≤ dx * dx := by rcases Int.le_total 0 dx with h | h; exact Int.mul_nonneg h h; exact Int.mul_nonneg_of_nonpos_of_nonpos h h
  have h2 : 0 ≤ dy * dy := by rcases Int.le_total 0 dy with h | h; exact Int.mul_nonneg h h; exact Int.mul_nonneg_of_nonpos_of_nonpos h h
  have e1 : dx * dx = 0 := by omega
  have e2 : dy * dy = 0 := by omega
  rcases Int.mul_eq_zero.1 e1 with a | a <;> rcases Int.mul_eq_zero.1 e2 with b | b <;> exact ⟨a, b⟩
theorem paP_in (ux uy dx dy : Int) : 0 ≤ paP ux uy dx dy ∧ paP ux uy dx dy ≤ sqP dx dy := limP_in (sqP_nn dx dy)
/-- A step lies between 0 and dx. -/
theorem stP_in {dx n d : Int} (h0 : 0 ≤ n) (h1 : n ≤ d) : min 0 dx ≤ stP dx n d ∧ stP dx n d ≤ max 0 dx := by
  unfold stP
  split
  · omega
  · have hd : 0 < d := by omega
    have e1 : dx * d / d = dx := Int.mul_ediv_cancel dx (by omega)
    have e2 : (0 : Int) * d / d = 0 := by simp
    rcases Int.le_total 0 dx with c | c
    · have a1 : dx * n ≤ dx * d := Int.mul_le_mul_of_nonneg_left h1 c
      have a2 : 0 ≤ dx * n := Int.mul_nonneg c h0
      have b1 := Int.ediv_le_ediv hd a1
      have b2 := Int.ediv_nonneg a2 (by omega : 0 ≤ d)
      rw [e1] at b1
      omega
    · have a1 : dx * d ≤ dx * n := Int.mul_le_mul_of_nonpos_left c h1
      have a2 : dx * n ≤ 0 := Int.mul_nonpos_of_nonpos_of_nonneg c h0
      have b1 := Int.ediv_le_ediv hd a1
      have b2 := Int.ediv_le_ediv hd (show dx * n ≤ 0 * d by omega)
      rw [e1] at b1
      rw [e2] at b2
      omega
theorem stP_zero (dx d : Int) : stP dx 0 d = 0 := by
  unfold stP
  split
  · rfl
  · simp
theorem stP_full {dx d : Int} (h : d ≠ 0) : stP dx d d = dx := by
  unfold stP
  rw [if_neg h]
  exact Int.mul_ediv_cancel dx h
/-- The other way round: the same point. -/
theorem stP_turn {dx n d : Int} (h : 0 < d) : dx + stP (-dx) (d - n) d = stP dx n d := by
  unfold stP
  rw [if_neg (by omega), if_neg (by omega)]
  have e : -dx * (d - n) = dx * n + (-dx) * d := by rw [Int.mul_sub, Int.neg_mul, Int.neg_mul]; omega
  rw [e, Int.add_mul_ediv_right _ _ (by omega)]
  omega
theorem limP_turn {n d : Int} (h : 0 ≤ d) : limP (d - n) d = d - limP n d := by
  unfold limP
  repeat' split
  all_goals omega
theorem paP_turn (ux uy dx dy : Int) : paP (ux - dx) (uy - dy) (-dx) (-dy) = sqP dx dy - paP ux uy dx dy := by
  unfold paP
  have e1 : sqP (-dx) (-dy) = sqP dx dy := by unfold sqP; rw [Int.neg_mul_neg, Int.neg_mul_neg]
  have e2 : (ux - dx) * -dx + (uy - dy) * -dy = sqP dx dy - (ux * dx + uy * dy) := by
    unfold sqP
    rw [Int.sub_mul, Int.sub_mul, Int.mul_neg, Int.mul_neg, Int.mul_neg, Int.mul_neg]
    omega
  rw [e1, e2]
  exact limP_turn (sqP_nn dx dy)
theorem abs_mul_le {F e d A : Int} (he : 0 ≤ e ∧ e ≤ d) (hA : F ≤ A ∧ -F ≤ A) : -(F * e) ≤ A * d := by
  have hA0 : 0 ≤ A := by omega
  have h1 : -F * e ≤ A * e := Int.mul_le_mul_of_nonneg_right hA.2 he.1
  have h2 : A * e ≤ A * d := Int.mul_le_mul_of_nonneg_left he.2 hA0
  rw [Int.neg_mul] at h1
  omega
theorem near_core {F1 F2 ex ey d a b U r : Int} (hd : 0 < d) (h1 : d * a = F1 - ex) (h2 : d * b = F2 - ey) (hex : 0 ≤ ex ∧ ex ≤ d) (hey : 0 ≤ ey ∧ ey ≤ d) (hF : F1 * F1 + F2 * F2 ≤ d * d * U) (hU : U < (r + 1) * (r + 1)) (hr : 0 ≤ r) : a * a + b * b < (r + 3) * (r + 3) := by
  obtain ⟨A1, hA1⟩ : ∃ A, A = max F1 (-F1) := ⟨_, rfl⟩
  obtain ⟨A2, hA2⟩ : ∃ A, A = max F2 (-F2) := ⟨_, rfl⟩
  have a1 : F1 ≤ A1 ∧ -F1 ≤ A1 := by omega
  have a2 : F2 ≤ A2 ∧ -F2 ≤ A2 := by omega
  have q1 : A1 * A1 = F1 * F1 := by
    rcases Int.le_total 0 F1 with c | c
    · rw [show A1 = F1 by omega]
    · rw [show A1 = -F1 by omega, Int.neg_mul_neg]
  have q2 : A2 * A2 = F2 * F2 := by
    rcases Int.le_total 0 F2 with c | c
    · rw [show A2 = F2 by omega]
    · rw [show A2 = -F2 by omega, Int.neg_mul_neg]
  have p1 := abs_mul_le hex a1
  have p2 := abs_mul_le hey a2
  have e1 : ex * ex ≤ d * d := Int.mul_le_mul hex.2 hex.2 hex.1 (by omega)
  have e2 : ey * ey ≤ d * d := Int.mul_le_mul hey.2 hey.2 hey.1 (by omega)
  have hdd : 0 < d * d := Int.mul_pos hd hd
  have s1 : d * d * (a * a + b * b) = (F1 - ex) * (F1 - ex) + (F2 - ey) * (F2 - ey) := by rw [← h1, ← h2]; grind
  have s2 : (F1 - ex) * (F1 - ex) + (F2 - ey) * (F2 - ey) = F1 * F1 + F2 * F2 + 2 * (-(F1 * ex)) + 2 * (-(F2 * ey)) + ex * ex + ey * ey := by grind
  obtain ⟨G, hG⟩ : ∃ G, G = A1 + A2 := ⟨_, rfl⟩
  have hG0 : 0 ≤ G := by omega
  have g1 : G * G ≤ 2 * (A1 * A1 + A2 * A2) := by
    have : 0 ≤ (A1 - A2) * (A1 - A2) := by
      rcases Int.le_total 0 (A1 - A2) with c | c
      · exact Int.mul_nonneg c c
      · exact Int.mul_nonneg_of_nonpos_of_nonpos c c
    have e : 2 * (A1 * A1 + A2 * A2) - G * G = (A1 - A2) * (A1 - A2) := by rw [hG]; grind
    omega
  have hdu : d * d * U ≤ d * d * ((r + 1) * (r + 1)) := Int.mul_le_mul_of_nonneg_left (by omega) (by omega)
  have g2 : G * G ≤ 2 * (d * d * ((r + 1) * (r + 1))) := by rw [q1, q2] at g1; omega
  have g3 : 2 * G ≤ 3 * (d * (r + 1)) := by
    apply Int.not_lt.1
    intro c
    obtain ⟨X, hX⟩ : ∃ X, X = d * (r + 1) := ⟨_, rfl⟩
    rw [← hX] at c
    have hX0 : 0 ≤ X := by rw [hX]; exact Int.mul_nonneg (by omega) (by omega)
    have e : d * d * ((r + 1) * (r + 1)) = X * X := by rw [hX]; grind
    rw [e] at g2
    have m1 : 3 * X * (3 * X) < 2 * G * (2 * G) := Int.mul_lt_mul' (by omega) c (by omega) (by omega)
    have e3 : 3 * X * (3 * X) = 9 * (X * X) := by grind
    have e4 : 2 * G * (2 * G) = 4 * (G * G) := by grind
    have : 0 ≤ X * X := Int.mul_nonneg hX0 hX0
    omega
  have g4 : G * d * 2 ≤ 3 * (d * d * (r + 1)) := by
    have := Int.mul_le_mul_of_nonneg_right g3 (show 0 ≤ d by omega)
    have e : 3 * (d * (r + 1)) * d = 3 * (d * d * (r + 1)) := by grind
    have e' : 2 * G * d = G * d * 2 := by grind
    omega
  have eG : A1 * d + A2 * d = G * d := by rw [hG, Int.add_mul]
  have fin : d * d * (a * a + b * b) ≤ d * d * (U + 3 * (r + 1) + 2) := by
    have e : d * d * (U + 3 * (r + 1) + 2) = d * d * U + 3 * (d * d * (r + 1)) + 2 * (d * d) := by grind
    rw [s1, s2, e]
    omega
  have := Int.le_of_mul_le_mul_left fin hdd
  have e5 : (r + 3) * (r + 3) = (r + 1) * (r + 1) + 4 * (r + 1) + 4 := by grind
  omega
/-- The nearest point is hardly farther away than the end p. -/
theorem near_len {ux uy dx dy r : Int} (hU : ux * ux + uy * uy < (r + 1) * (r + 1)) (hr : 0 ≤ r) :
    (stP dx (paP ux uy dx dy) (sqP dx dy) - ux) * (stP dx (paP ux uy dx dy) (sqP dx dy) - ux) + (stP dy (paP ux uy dx dy) (sqP dx dy) - uy) * (stP dy (paP ux uy dx dy) (sqP dx dy) - uy) < (r + 3) * (r + 3) := by
  obtain ⟨n0, n1⟩ := paP_in ux uy dx dy
  have hd := sqP_nn dx dy
  by_cases hz : sqP dx dy = 0
  · unfold stP
    rw [if_pos hz, if_pos hz]
    have e1 : (0 - ux) * (0 - ux) = ux * ux := by grind
    have e2 : (0 - uy) * (0 - uy) = uy * uy := by grind
    have e5 : (r + 3) * (r + 3) = (r + 1) * (r + 1) + 4 * (r + 1) + 4 := by grind
    omega
  obtain ⟨n, hn⟩ : ∃ n, n = paP ux uy dx dy := ⟨_, rfl⟩
  obtain ⟨d, hdd⟩ : ∃ d, d = sqP dx dy := ⟨_, rfl⟩
  have hd0 : 0 < d := by omega
  rw [← hn] at n0 n1 ⊢
  rw [← hdd] at n1 ⊢
  unfold stP
  rw [if_neg (by omega), if_neg (by omega)]
  have m1 := Int.emod_nonneg (dx * n) (show d ≠ 0 by omega)
  have m2 := Int.emod_lt_of_pos (dx * n) hd0
  have m3 := Int.emod_nonneg (dy * n) (show d ≠ 0 by omega)
  have m4 := Int.emod_lt_of_pos (dy * n) hd0
  have k1 := Int.mul_ediv_add_emod (dx * n) d
  have k2 := Int.mul_ediv_add_emod (dy * n) d
  refine near_core (F1 := dx * n - d * ux) (F2 := dy * n - d * uy) (ex := dx * n % d) (ey := dy * n % d) (d := d) (U := ux * ux + uy * uy) hd0 ?_ ?_ ⟨m1, by omega⟩ ⟨m3, by omega⟩ ?_ hU hr
  · rw [Int.mul_sub]; omega
  · rw [Int.mul_sub]; omega
  · obtain ⟨t, ht⟩ : ∃ t, t = ux * dx + uy * dy := ⟨_, rfl⟩
    have e : (dx * n - d * ux) * (dx * n - d * ux) + (dy * n - d * uy) * (dy * n - d * uy) = d * d * (ux * ux + uy * uy) + d * (n * (n - 2 * t)) := by
      have : (dx * n - d * ux) * (dx * n - d * ux) + (dy * n - d * uy) * (dy * n - d * uy) = n * n * (dx * dx + dy * dy) - 2 * (n * d) * (ux * dx + uy * dy) + d * d * (ux * ux + uy * uy) := by grind
      rw [this, ← ht, show dx * dx + dy * dy = d from hdd.symm]
      grind
    rw [e]
    have hk : n * (n - 2 * t) ≤ 0 := by
      unfold paP limP at hn
      rw [← ht, ← hdd] at hn
      split at hn
      · rw [hn]; simp
      · split at hn
        · exact Int.mul_nonpos_of_nonneg_of_nonpos n0 (by omega)
        · exact Int.mul_nonpos_of_nonneg_of_nonpos n0 (by omega)
    have := Int.mul_nonpos_of_nonneg_of_nonpos (show 0 ≤ d by omega) hk
    omega
end Go.Proofs.YtangalkbjochjaaGreatDoor
end

section
/-
  Package segment: the arithmetic of the chosen points (no program).
-/
namespace Go.Proofs.YtangalkbjochjaaGreatDoor

def sq2 (a b : Int) : Int := a * a + b * b
theorem sq2_neg (a b c d : Int) : sq2 (a - b) (c - d) = sq2 (b - a) (d - c) := by unfold sq2; grind
theorem sq2_nn (a b : Int) : 0 ≤ sq2 a b := sqP_nn a b
theorem sq2_self (a b : Int) : sq2 (a - a) (b - b) = 0 := by rw [Int.sub_self, Int.sub_self]; rfl
def nX (px py qx qy cx cy : Int) : Int := px + stP (qx - px) (paP (cx - px) (cy - py) (qx - px) (qy - py)) (sqP (qx - px) (qy - py))
def nY (px py qx qy cx cy : Int) : Int := py + stP (qy - py) (paP (cx - px) (cy - py) (qx - px) (qy - py)) (sqP (qx - px) (qy - py))
/-- Two points and the square of their distance. -/
structure Tw where
  a : Int
  b : Int
  c : Int
  d : Int
  t : Int
def mkT (a b c d : Int) : Tw := ⟨a, b, c, d, sq2 (c - a) (d - b)⟩
def pk (u v : Tw) : Tw := if v.t < u.t then v else u
def tw0 (a b _c _d e f g h : Int) : Tw := mkT a b (nX e f g h a b) (nY e f g h a b)
def tw1 (_a _b c d e f g h : Int) : Tw := mkT c d (nX e f g h c d) (nY e f g h c d)
def tw2 (a b c d e f _g _h : Int) : Tw := mkT (nX a b c d e f) (nY a b c d e f) e f
def tw3 (a b c d _e _f g h : Int) : Tw := mkT (nX a b c d g h) (nY a b c d g h) g h
def chs (a b c d e f g h : Int) : Tw := pk (pk (pk (tw0 a b c d e f g h) (tw1 a b c d e f g h)) (tw2 a b c d e f g h)) (tw3 a b c d e f g h)
theorem pk_t (u v : Tw) : (pk u v).t = min u.t v.t := by
  unfold pk
  split <;> omega
theorem pk_or (u v : Tw) : pk u v = u ∨ pk u v = v := by
  unfold pk
  split
  · exact .inr rfl
  · exact .inl rfl
theorem chs_t (a b c d e f g h : Int) : (chs a b c d e f g h).t = min (min (min (tw0 a b c d e f g h).t (tw1 a b c d e f g h).t) (tw2 a b c d e f g h).t) (tw3 a b c d e f g h).t := by
  unfold chs
  rw [pk_t, pk_t, pk_t]
theorem chs_or (a b c d e f g h : Int) : chs a b c d e f g h = tw0 a b c d e f g h ∨ chs a b c d e f g h = tw1 a b c d e f g h ∨ chs a b c d e f g h = tw2 a b c d e f g h ∨ chs a b c d e f g h = tw3 a b c d e f g h := by
  unfold chs
  rcases pk_or (pk (pk (tw0 a b c d e f g h) (tw1 a b c d e f g h)) (tw2 a b c d e f g h)) (tw3 a b c d e f g h) with q | q
  · rw [q]
    rcases pk_or (pk (tw0 a b c d e f g h) (tw1 a b c d e f g h)) (tw2 a b c d e f g h) with q | q
    · rw [q]
      rcases pk_or (tw0 a b c d e f g h) (tw1 a b c d e f g h) with q | q
      · exact .inl q
      · exact .inr (.inl q)
    · exact .inr (.inr (.inl q))
  · exact .inr (.inr (.inr q))
theorem chs_sq (a b c d e f g h : Int) : (chs a b c d e f g h).t = sq2 ((chs a b c d e f g h).c - (chs a b c d e f g h).a) ((chs a b c d e f g h).d - (chs a b c d e f g h).b) := by
  rcases chs_or a b c d e f g h with q | q | q | q <;> rw [q] <;> rfl
/-- One of the chosen points is an end. -/
theorem chs_end (a b c d e f g h : Int) : ((chs a b c d e f g h).a = a ∧ (chs a b c d e f g h).b = b) ∨ ((chs a b c d e f g h).a = c ∧ (chs a b c d e f g h).b = d) ∨ ((chs a b c d e f g h).c = e ∧ (chs a b c d e f g h).d = f) ∨ ((chs a b c d e f g h).c = g ∧ (chs a b c d e f g h).d = h) := by
  rcases chs_or a b c d e f g h with q | q | q | q <;> rw [q]
  · exact .inl ⟨rfl, rfl⟩
  · exact .inr (.inl ⟨rfl, rfl⟩)
  · exact .inr (.inr (.inl ⟨rfl, rfl⟩))
  · exact .inr (.inr (.inr ⟨rfl, rfl⟩))
theorem chs_sym (a b c d e f g h : Int) : (chs a b c d e f g h).t = (chs e f g h a b c d).t := by
  rw [chs_t, chs_t]
  have e0 : (tw0 a b c d e f g h).t = (tw2 e f g h a b c d).t := sq2_neg _ _ _ _
  have e1 : (tw1 a b c d e f g h).t = (tw3 e f g h a b c d).t := sq2_neg _ _ _ _
  have e2 : (tw2 a b c d e f g h).t = (tw0 e f g h a b c d).t := sq2_neg _ _ _ _
  have e3 : (tw3 a b c d e f g h).t = (tw1 e f g h a b c d).t := sq2_neg _ _ _ _
  rw [e0, e1, e2, e3]
  omega
theorem nX_pt (p q c d : Int) : nX p q p q c d = p ∧ nY p q p q c d = q := by
  unfold nX nY stP
  rw [Int.sub_self, Int.sub_self]
  have e : sqP 0 0 = 0 := rfl
  rw [e, if_pos rfl]
  omega
theorem nX_self (p q c d : Int) : nX p q c d p q = p ∧ nY p q c d p q = q := by
  unfold nX nY
  have e : paP (p - p) (q - q) (c - p) (d - q) = 0 := by
    unfold paP limP
    have := sqP_nn (c - p) (d - q)
    rw [Int.sub_self, Int.sub_self, Int.zero_mul, Int.zero_mul]
    split
    · rfl
    · split <;> omega
  rw [e, stP_zero, stP_zero]
  omega
theorem chs_pts (a b e f : Int) : (chs a b a b e f e f).a = a ∧ (chs a b a b e f e f).b = b ∧ (chs a b a b e f e f).c = e ∧ (chs a b a b e f e f).d = f := by
  rcases chs_or a b a b e f e f with q | q | q | q <;> rw [q]
  · exact ⟨rfl, rfl, (nX_pt _ _ _ _).1, (nX_pt _ _ _ _).2⟩
  · exact ⟨rfl, rfl, (nX_pt _ _ _ _).1, (nX_pt _ _ _ _).2⟩
  · exact ⟨(nX_pt _ _ _ _).1, (nX_pt _ _ _ _).2, rfl, rfl⟩
  · exact ⟨(nX_pt _ _ _ _).1, (nX_pt _ _ _ _).2, rfl, rfl⟩
theorem tw_nn (a b c d : Int) : 0 ≤ (mkT a b c d).t := sq2_nn _ _
theorem chs_nn (a b c d e f g h : Int) : 0 ≤ (chs a b c d e f g h).t := by
  rw [chs_sq]
  exact sq2_nn _ _
theorem chs_self (a b c d : Int) : (chs a b c d a b c d).t = 0 := by
  have h := chs_nn a b c d a b c d
  have e0 : (tw0 a b c d a b c d).t = 0 := by
    unfold tw0
    rw [(nX_self a b c d).1, (nX_self a b c d).2]
    exact sq2_self _ _
  rw [chs_t, e0] at *
  omega
theorem nX_mv (p q r s c d v u : Int) : nX (p + v) (q + u) (r + v) (s + u) (c + v) (d + u) = nX p q r s c d + v ∧ nY (p + v) (q + u) (r + v) (s + u) (c + v) (d + u) = nY p q r s c d + u := by
  unfold nX nY
  have e1 : r + v - (p + v) = r - p := by omega
  have e2 : s + u - (q + u) = s - q := by omega
  have e3 : c + v - (p + v) = c - p := by omega
  have e4 : d + u - (q + u) = d - q := by omega
  rw [e1, e2, e3, e4]
  omega
def mvT (v u : Int) (x : Tw) : Tw := ⟨x.a + v, x.b + u, x.c + v, x.d + u, x.t⟩
theorem mkT_mv (a b c d v u : Int) : mkT (a + v) (b + u) (c + v) (d + u) = mvT v u (mkT a b c d) := by
  unfold mkT mvT
  have e1 : c + v - (a + v) = c - a := by omega
  have e2 : d + u - (b + u) = d - b := by omega
  rw [e1, e2]
theorem pk_mv (v u : Int) (x y : Tw) : pk (mvT v u x) (mvT v u y) = mvT v u (pk x y) := by
  unfold pk
  show (if y.t < x.t then _ else _) = _
  split <;> rfl
theorem chs_mv (a b c d e f g h v u : Int) : chs (a + v) (b + u) (c + v) (d + u) (e + v) (f + u) (g + v) (h + u) = mvT v u (chs a b c d e f g h) := by
  unfold chs tw0 tw1 tw2 tw3
  rw [(nX_mv e f g h a b v u).1, (nX_mv e f g h a b v u).2, (nX_mv e f g h c d v u).1, (nX_mv e f g h c d v u).2, (nX_mv a b c d e f v u).1, (nX_mv a b c d e f v u).2, (nX_mv a b c d g h v u).1, (nX_mv a b c d g h v u).2, mkT_mv, mkT_mv, mkT_mv, mkT_mv, pk_mv, pk_mv, pk_mv]
/-- A segment of one point. -/
theorem chs_one (a b e f g h : Int) : (chs a b a b e f g h).t = min (sq2 (nX e f g h a b - a) (nY e f g h a b - b)) (min (sq2 (e - a) (f - b)) (sq2 (g - a) (h - b))) := by
  rw [chs_t]
  have e2 : (tw2 a b a b e f g h).t = sq2 (e - a) (f - b) := by
    unfold tw2
    rw [(nX_pt a b e f).1, (nX_pt a b e f).2]
    rfl
  have e3 : (tw3 a b a b e f g h).t = sq2 (g - a) (h - b) := by
    unfold tw3
    rw [(nX_pt a b g h).1, (nX_pt a b g h).2]
    rfl
  have e0 : (tw0 a b a b e f g h).t = sq2 (nX e f g h a b - a) (nY e f g h a b - b) := rfl
  have e1 : (tw1 a b a b e f g h).t = sq2 (nX e f g h a b - a) (nY e f g h a b - b) := rfl
  rw [e0, e1, e2, e3]
  omega
end Go.Proofs.YtangalkbjochjaaGreatDoor
end

section
/-
  Package root: what each function returns, for all arguments, by contracts on whole numbers.
-/
namespace Go.Proofs.YtangalkbjochjaaGreatDoor
open Go.RowKit Go.Lib

theorem or_join (x y : Int) (e : Nat) (hx0 : 0 ≤ x) (hx : x % 2 ^ e = 0) (hx1 : x < 18446744073709551616) (hy0 : 0 ≤ y) (hy : y < 2 ^ e) (hy1 : y < 18446744073709551616) : bits .or .u64 x y = x + y :=
  bits_join .u64 64 (by decide) wraps_u64 e x y hx0 hx (by omega) hy0 hy (by omega)

set_option maxRecDepth 100000 in
set_option maxHeartbeats 2000000 in
theorem isqrt_any (n r : Int) (hr : Hid (IsRoot r n)) (h1 : n < 18446744073709551616) (w : World) :
    Calls Tryz.prog 78 #[.int .u64 n] w fun e w' => e = .returned (.int .u64 r) ∧ w = w' := by
  go_enter Tryz.func78, Tryz.ntmps78
  go_wp2
  go_loop [3, 4, 6] (fun a m i => ∃ (e : Nat) (ai mi ki q : Int), a = .int .u64 ai ∧ m = .int .u64 mi ∧ i = .int .i64 ki ∧ 0 ≤ ki ∧ ki ≤ 32 ∧ 0 ≤ ai ∧ 0 ≤ mi ∧ Hid (ki + e = 32 ∧ mi = 2 ^ e / 2 ∧ ai = 2 ^ e * q ∧ ai ≤ r ∧ r < ai + 2 ^ e ∧ ai + 2 ^ e ≤ 4294967296)) (fun _ _ i => (32 - RowKit.intOf i).toNat)
  case atStart =>
    have := hr.out.le_max h1
    have := hr.out.1
    exact ⟨32, _, _, _, 0, rfl, rfl, rfl, by omega, by omega, by omega, by omega, Lib.hid ⟨by omega, by omega, by omega, by omega, by omega, by omega⟩⟩
  case round =>
    obtain ⟨e, ai, mi, ki, q, rfl, rfl, rfl, hk0, hk1, ha0, hm0, H⟩ := hrel
    by_cases hc : ki < 32
    · have hrm := hr.out.le_max h1
      obtain ⟨t, ht⟩ : ∃ t, t = ai + mi := ⟨_, rfl⟩
      obtain ⟨s, hs⟩ : ∃ s, s = t * t := ⟨_, rfl⟩
      obtain ⟨m', hm'⟩ : ∃ m', m' = mi / 2 := ⟨_, rfl⟩
      obtain ⟨k', hk'⟩ : ∃ k', k' = ki + 1 := ⟨_, rfl⟩
      obtain ⟨E, rfl⟩ : ∃ E, e = E + 1 := ⟨e - 1, by have := H.out.1; omega⟩
      have hP : (2 : Int) ^ (E + 1) = 2 * 2 ^ E := by rw [Int.pow_succ]; omega
      have hPp : (1 : Int) ≤ 2 ^ E := Int.pow_pos (by decide)
      have hP31 : (2 : Int) ^ E ≤ 2147483648 := by
        have hE : E ≤ 31 := by have := H.out.1; omega
        have h2 : 2 ^ E ≤ 2 ^ 31 := Nat.pow_le_pow_right (n := 2) (by decide) hE
        have h3 : ((2 ^ E : Nat) : Int) ≤ ((2 ^ 31 : Nat) : Int) := Int.ofNat_le.mpr h2
        rw [Int.natCast_pow] at h3
        exact h3
      obtain ⟨P, hPn⟩ : ∃ P : Int, P = 2 ^ E := ⟨_, rfl⟩
      have hmi : mi = P := by have := H.out.2.1; omega
      have f1 : bits .or .u64 ai mi = t := by
        obtain ⟨x1, x2, x3, x4, x5, x6⟩ := H.out
        rw [ht]
        exact or_join ai mi (E + 1) ha0 (by rw [x3]; exact Int.mul_emod_right ..) (by omega) hm0 (by omega) (by omega)
      have ht0 : 0 ≤ t := by omega
      have ht1 : t < 4294967296 := by
        obtain ⟨x1, x2, x3, x4, x5, x6⟩ := H.out
        omega
      have hs0 : 0 ≤ s := by rw [hs]; exact Int.mul_nonneg ht0 ht0
      have hs1 : s < 18446744073709551616 := by
        have := sq_le ht0 (show t ≤ 4294967295 by omega); omega
      have hiff : Hid (s ≤ n ↔ t ≤ r) := by rw [hs]; exact Lib.hid (hr.out.iff ht0)
      have f2 : t * t = s := hs.symm
      have f3 : IntKind.u64.wrap s = s := by rw [IntKind.wrap_u64]; omega
      have f4 : mi / 2 = m' := hm'.symm
      have f5 : wrap64 (ki + 1) = k' := by unfold wrap64; omega
      have hm'0 : 0 ≤ m' := by omega
      have HH := Lib.hid (And.intro ht (And.intro hm' (And.intro hk' (And.intro hP (And.intro hPn hmi)))))
      clear ht hm' hk' hP hPn hs hmi hPp hP31 hrm
      by_cases hle : s ≤ n
      all_goals
        go_wp2
        go_round
        case rel =>
          obtain ⟨x1, x2, x3, x4, x5, x6⟩ := H.out
          obtain ⟨y1, y2, y3, y4, y5, y6⟩ := HH.out
          have y7 := hiff.out
          first
          | exact ⟨E, _, _, _, 2 * q + 1, rfl, rfl, rfl, by omega, by omega, by omega, by omega, Lib.hid ⟨by omega, by omega, by rw [y1, y6, y5, x3, y4, Int.mul_add, ← Int.mul_assoc, Int.mul_comm (2 ^ E) 2, Int.mul_one], by omega, by omega, by omega⟩⟩
          | exact ⟨E, _, _, _, 2 * q, rfl, rfl, rfl, by omega, by omega, by omega, by omega, Lib.hid ⟨by omega, by omega, by rw [x3, y4, ← Int.mul_assoc, Int.mul_comm (2 ^ E) 2], by omega, by omega, by omega⟩⟩
        case measure => have := HH.out.2.2.1; simp [RowKit.intOf]; omega
    · go_wp2
      go_ret
      obtain ⟨x1, x2, x3, x4, x5, x6⟩ := H.out
      have e0 : e = 0 := by omega
      subst e0
      exact ⟨congrArg (fun x => Ending.returned (.int .u64 x)) (by omega), rfl⟩

end Go.Proofs.YtangalkbjochjaaGreatDoor
end

section
/-
  The reference implementation of package root: what each function returns, for all arguments.
-/
namespace Go.Proofs.YtangalkbjochjaaGreatDoor
open Go.RowKit Go.Lib

set_option maxRecDepth 100000 in
set_option maxHeartbeats 2000000 in
theorem refisqrt_any (n r : Int) (hr : Hid (IsRoot r n)) (h1 : n < 18446744073709551616) (w : World) :
    Calls Tryz.prog 43 #[.int .u64 n] w fun e w' => e = .returned (.int .u64 r) ∧ w = w' := by
  go_enter Tryz.func43, Tryz.ntmps43
  go_wp2
  go_loop [3, 4] (fun a b => ∃ (lo hi : Int), a = .int .u64 lo ∧ b = .int .u64 hi ∧ 0 ≤ lo ∧ lo ≤ r ∧ r ≤ hi ∧ hi ≤ 4294967295) (fun a b => (RowKit.intOf b - RowKit.intOf a).toNat)
  case atStart =>
    have := hr.out.le_max h1
    have := hr.out.1
    exact ⟨_, _, rfl, rfl, by omega, by omega, by omega, by omega⟩
  case round =>
    obtain ⟨lo, hi, rfl, rfl, hl0, hlr, hrh, hh⟩ := hrel
    by_cases hc : lo < hi
    · obtain ⟨d, hd⟩ : ∃ d, d = lo + hi + 1 := ⟨_, rfl⟩
      obtain ⟨m, hm⟩ : ∃ m, m = d / 2 := ⟨_, rfl⟩
      obtain ⟨s, hs⟩ : ∃ s, s = m * m := ⟨_, rfl⟩
      have hm0 : 1 ≤ m := by omega
      have hm1 : m ≤ 4294967295 := by omega
      have hs0 : 0 ≤ s := by rw [hs]; exact Int.mul_nonneg (by omega) (by omega)
      have hs1 : s < 18446744073709551616 := by
        have := sq_le (show 0 ≤ m by omega) hm1; omega
      have hiff : Hid (s ≤ n ↔ m ≤ r) := by rw [hs]; exact Lib.hid (hr.out.iff (by omega))
      have f1 : lo + hi + 1 = d := hd.symm
      have f2 : d / 2 = m := hm.symm
      have f3 : m * m = s := hs.symm
      have f4 : IntKind.u64.wrap s = s := by rw [IntKind.wrap_u64]; omega
      have f5 : d.tdiv 2 = m := by rw [Int.tdiv_eq_ediv_of_nonneg (by omega), f2]
      have hd0 : 0 ≤ d := by omega
      have hd1 : d < 18446744073709551616 := by omega
      have HH := Lib.hid (And.intro hd (And.intro hm hs))
      clear hd hm hs
      by_cases hle : s ≤ n
      all_goals
        go_wp2
        go_round
        case rel =>
          have y := hiff.out
          obtain ⟨z1, z2, z3⟩ := HH.out
          exact ⟨_, _, rfl, rfl, by omega, by omega, by omega, by omega⟩
        case measure =>
          obtain ⟨z1, z2, z3⟩ := HH.out
          simp [RowKit.intOf]; omega
    · go_wp2
      go_ret
      exact ⟨congrArg (fun x => Ending.returned (.int .u64 x)) (by omega), rfl⟩

end Go.Proofs.YtangalkbjochjaaGreatDoor
end

section
/-
  Package root: the contracts of its functions, by named results.
-/
namespace Go.Proofs.YtangalkbjochjaaGreatDoor
open Go.RowKit Go.Lib

theorem grow {f : Nat} {args : Array Value} {w : World} {e0 : Ending} (h : Calls Tryz.prog f args w fun e w' => e = e0 ∧ w = w') : Calls Tryz.prog f args w fun e w' => e = e0 ∧ Grown w w' :=
  h.mono fun _ _ ⟨a, b⟩ => ⟨a, by rw [← b]; exact Grown.refl _⟩

abbrev Isq1 (n q : Int) : Prop := ∀ w, Calls Tryz.prog 78 #[.int .u64 n] w fun e w' => e = .returned (.int .u64 q) ∧ w = w'
abbrev Rsq1 (n q : Int) : Prop := ∀ w, Calls Tryz.prog 43 #[.int .u64 n] w fun e w' => e = .returned (.int .u64 q) ∧ w = w'
theorem isq1 {n r : Int} (hr : IsRoot r n) (h1 : n < 18446744073709551616) : Isq1 n r := fun w => isqrt_any n r (Lib.hid hr) h1 w
theorem rsq1 {n r : Int} (hr : IsRoot r n) (h1 : n < 18446744073709551616) : Rsq1 n r := fun w => refisqrt_any n r (Lib.hid hr) h1 w
end Go.Proofs.YtangalkbjochjaaGreatDoor
end

section
/-
  Package vec: a function applied to both components, for each function that the program hands it.
-/
namespace Go.Proofs.YtangalkbjochjaaGreatDoor
open Go.RowKit Go.Lib

abbrev Dif2 (a b q : Int) : Prop := ∀ w, Calls Tryz.prog 95 #[.int .i32 a, .int .i32 b] w fun e w' => e = .returned (.int .i64 q) ∧ Grown w w'

theorem dif2 {a b q : Int} (ha : I32 a) (hb : I32 b) (hq : b - a = q) : Dif2 a b q := fun w => by
  obtain ⟨h1, h2⟩ := ha; obtain ⟨h3, h4⟩ := hb
  rw [← hq]
  clear hq
  refine grow ?_
  go_enter Tryz.func95, Tryz.ntmps95
  go_wp2
  go_ret
  exact ⟨rfl, rfl⟩

theorem each_dif (a b c d : Int) (ha : I32 a) (hb : I32 b) (hc : I32 c) (hd : I32 d) (w : World) :
    Calls Tryz.prog 94 #[.func (.func 95) #[] #[], .agg #[.int .i32 a, .int .i32 b], .agg #[.int .i32 c, .int .i32 d]] w fun e w' => e = .returned (.tuple #[.int .i64 (c - a), .int .i64 (d - b)]) ∧ Grown w w' := by
  have C1 := Lib.hid (dif2 ha hc rfl)
  have C2 := Lib.hid (dif2 hb hd rfl)
  go_enter Tryz.func94, Tryz.ntmps94
  go_wp2
  go_region_held3 (fun w' => w'.cell? ⟨w.heap.size, 0, none⟩ = some (.int .i32 a) ∧ w'.cell? ⟨w.heap.size, 1, none⟩ = some (.int .i32 b) ∧ w'.cell? ⟨w.heap.size + 1, 0, none⟩ = some (.int .i32 c) ∧ w'.cell? ⟨w.heap.size + 1, 1, none⟩ = some (.int .i32 d) ∧ w.heap.size + 2 ≤ w'.heap.size ∧ Grown w w')
    (first | exact ⟨by go_keep, by go_keep, by go_keep, by go_keep, by simp, ((Grown.refl _).alloc _ _ |>.alloc _ _).drew⟩ | (go_split_ands; exact ⟨by rw [gc _ _ (by omega)]; assumption, by rw [gc _ _ (by omega)]; assumption, by rw [gc _ _ (by omega)]; assumption, by rw [gc _ _ (by omega)]; assumption, by omega, grown_trans (by assumption) g⟩))
    (first
      | ((with_reducible refine (C1.out _).mono ?_); rintro e w1 ⟨rfl, g⟩; obtain ⟨gc, gf, gz⟩ := gcell g)
      | ((with_reducible refine (C2.out _).mono ?_); rintro e w1 ⟨rfl, g⟩; obtain ⟨gc, gf, gz⟩ := gcell g))
  go_wp2
  go_ret2
  rename_i hh
  exact ⟨rfl, hh.2.2.2.2.2⟩

end Go.Proofs.YtangalkbjochjaaGreatDoor
end

section
/-
  Package vec: its functions on vectors, for all arguments.
-/
namespace Go.Proofs.YtangalkbjochjaaGreatDoor
open Go.RowKit Go.Lib

theorem diff_any (a b c d : Int) (ha : I32 a) (hb : I32 b) (hc : I32 c) (hd : I32 d) (w : World) :
    Calls Tryz.prog 74 #[.agg #[.int .i32 a, .int .i32 b], .agg #[.int .i32 c, .int .i32 d]] w fun e w' => e = .returned (.tuple #[.int .i64 (c - a), .int .i64 (d - b)]) ∧ Grown w w' := by
  have C1 := Lib.hid (each_dif a b c d ha hb hc hd)
  go_enter Tryz.func74, Tryz.ntmps74
  go_wp2_with ((with_reducible refine (C1.out _).mono ?_); rintro e w1 ⟨rfl, g1⟩)
  go_ret2
  exact ⟨rfl, grown_trans (((Grown.refl _).alloc _ _).alloc _ _) g1⟩

end Go.Proofs.YtangalkbjochjaaGreatDoor
end

section
/-
  Package vec: differences, their lengths and unit vectors, for all arguments in range.
-/
namespace Go.Proofs.YtangalkbjochjaaGreatDoor
open Go.RowKit Go.Lib

/-- A component of a difference, in range. -/
def InD (d : Int) : Prop := -2181038080 ≤ d ∧ d ≤ 2181038080
/-- The sum of the squares. -/
def lsq (a b : Int) : Int := a * a + b * b
/-- A component of the unit vector. -/
def un (d n : Int) : Int := d * 65536 / n

theorem sq_in {d : Int} (h : InD d) : 0 ≤ d * d ∧ d * d ≤ 4756927106410086400 := by
  obtain ⟨h1, h2⟩ := h
  by_cases c : 0 ≤ d
  · exact ⟨Int.mul_nonneg c c, Int.mul_le_mul h2 h2 c (by decide)⟩
  · have e : d * d = -d * -d := (Int.neg_mul_neg d d).symm
    rw [e]
    exact ⟨Int.mul_nonneg (by omega) (by omega), Int.mul_le_mul (show -d ≤ 2181038080 by omega) (show -d ≤ 2181038080 by omega) (by omega) (by decide)⟩
theorem lsq_in {a b : Int} (ha : InD a) (hb : InD b) : 0 ≤ lsq a b ∧ lsq a b ≤ 9513854212820172800 := by
  have := sq_in ha; have := sq_in hb; unfold lsq; omega

theorem lengthsq_any (a b t : Int) (ha : InD a) (hb : InD b) (ht : lsq a b = t) (w : World) :
    Calls Tryz.prog 76 #[.int .i64 a, .int .i64 b] w fun e w' => e = .returned (.int .u64 t) ∧ w = w' := by
  have m1 := sq_in ha
  have m2 := sq_in hb
  obtain ⟨h1, h2⟩ := ha; obtain ⟨h3, h4⟩ := hb
  unfold lsq at ht
  obtain ⟨x, hx⟩ : ∃ x, x = a * a := ⟨_, rfl⟩
  obtain ⟨y, hy⟩ : ∃ y, y = b * b := ⟨_, rfl⟩
  rw [← hx, ← hy] at ht
  rw [← hx] at m1
  rw [← hy] at m2
  have e1 : a * a = x := hx.symm
  have e2 : b * b = y := hy.symm
  have f1 : IntKind.i64.wrap x = x := by rw [IntKind.wrap_i64]; omega
  have f2 : IntKind.i64.wrap y = y := by rw [IntKind.wrap_i64]; omega
  have f3 : wrap64 x = x := by unfold wrap64; omega
  have f4 : wrap64 y = y := by unfold wrap64; omega
  have f5 : IntKind.u64.wrap x = x := by rw [IntKind.wrap_u64]; omega
  have f6 : IntKind.u64.wrap y = y := by rw [IntKind.wrap_u64]; omega
  have f7 : IntKind.u64.wrap (x + y) = t := by rw [IntKind.wrap_u64]; omega
  clear hx hy ht m1 m2
  go_enter Tryz.func76, Tryz.ntmps76
  go_wp2
  go_ret
  exact ⟨rfl, rfl⟩

theorem length_any (a b n : Int) (ha : InD a) (hb : InD b) (hn : Hid (IsRoot n (lsq a b))) (w : World) :
    Calls Tryz.prog 58 #[.int .i64 a, .int .i64 b] w fun e w' => e = .returned (.int .i64 n) ∧ w = w' := by
  have hl := lsq_in ha hb
  have C1 := Lib.hid (lengthsq_any a b (lsq a b) ha hb rfl)
  have C2 := Lib.hid (isq1 hn.out (by omega))
  have h1 := hn.out.le_max (by omega)
  have h0 := hn.out.1
  go_enter Tryz.func58, Tryz.ntmps58
  go_wp2_with (first
    | ((with_reducible refine (C1.out _).mono ?_); rintro e w1 ⟨rfl, rfl⟩)
    | ((with_reducible refine (C2.out _).mono ?_); rintro e w1 ⟨rfl, rfl⟩))
  go_ret
  exact ⟨rfl, rfl⟩

theorem fl_trunc (a b : Int) (hb0 : 0 < b) : (a.tmod b < 0 → a / b = a.tdiv b - 1) ∧ (0 ≤ a.tmod b → a / b = a.tdiv b) := by
  have hd := Int.mul_tdiv_add_tmod a b
  have hl := Int.tmod_lt_of_pos a hb0
  have hg : -b < a.tmod b := Int.lt_tmod_of_pos a hb0
  obtain ⟨q, hq⟩ : ∃ q, q = a.tdiv b := ⟨_, rfl⟩
  obtain ⟨r, hr⟩ : ∃ r, r = a.tmod b := ⟨_, rfl⟩
  rw [← hq, ← hr] at hd
  rw [← hr] at hl hg
  rw [← hr, ← hq]
  constructor
  · intro c
    rw [Int.ediv_eq_iff_of_pos hb0, Int.sub_mul, Int.mul_comm q b]; omega
  · intro c
    rw [Int.ediv_eq_iff_of_pos hb0, Int.mul_comm q b]; omega

theorem un_in {d n : Int} (hn : 0 < n) (h1 : -n ≤ d) (h2 : d ≤ n) : -65536 ≤ un d n ∧ un d n ≤ 65536 := by
  unfold un
  constructor
  · rw [Int.le_ediv_iff_mul_le hn]; omega
  · have := Int.ediv_le_ediv hn (show d * 65536 ≤ 65536 * n by omega)
    rwa [Int.mul_ediv_cancel _ (by omega)] at this

theorem ratio_any (d n q : Int) (hd : InD d) (hn : 0 < n) (hn1 : n < 4294967296) (h1 : -n ≤ d) (h2 : d ≤ n) (hq : un d n = q) (w : World) :
    Calls Tryz.prog 77 #[.int .i64 d, .int .i64 n] w fun e w' => e = .returned (.int .i32 q) ∧ w = w' := by
  have hu := un_in hn h1 h2
  have ht := fl_trunc (d * 65536) n hn
  have hbz : (n == 0) = false := by simp; omega
  rw [hq] at hu
  unfold un at hq
  rw [hq] at ht
  have hdd := Int.mul_tdiv_add_tmod (d * 65536) n
  have hl := Int.tmod_lt_of_pos (d * 65536) hn
  have hg : -n < (d * 65536).tmod n := Int.lt_tmod_of_pos (d * 65536) hn
  obtain ⟨k1, k2⟩ := hd
  obtain ⟨t, hT⟩ : ∃ t, t = (d * 65536).tdiv n := ⟨_, rfl⟩
  obtain ⟨r, hr⟩ : ∃ r, r = (d * 65536).tmod n := ⟨_, rfl⟩
  rw [← hT, ← hr] at ht
  rw [← hr] at hl hg
  clear hdd hq
  have r1 : -4294967296 ≤ r := by omega
  have r2 : r ≤ 4294967296 := by omega
  obtain ⟨D, hD⟩ : ∃ D, D = d * 65536 := ⟨_, rfl⟩
  rw [← hD] at hT hr
  have d1 : -142936511610880 ≤ D := by omega
  have d2 : D ≤ 142936511610880 := by omega
  have e0 : d * 65536 = D := hD.symm
  by_cases c : r < 0
  · have e := ht.1 c
    have t1 : -65537 ≤ t := by omega
    have t2 : t ≤ 65537 := by omega
    have W1 : IntKind.i64.wrap (D.tdiv n) = t := by rw [← hT, IntKind.wrap_i64]; omega
    have W2 : IntKind.i64.wrap (D.tmod n) = r := by rw [← hr, IntKind.wrap_i64]; omega
    have W6 : D.tdiv n = t := hT.symm
    have W7 : D.tmod n = r := hr.symm
    have W3 : wrap64 (D.tdiv n) = t := by rw [← hT]; unfold wrap64; omega
    have W4 : wrap64 (D.tmod n) = r := by rw [← hr]; unfold wrap64; omega
    have W5 : IntKind.i32.wrap (t - 1) = t - 1 := by rw [IntKind.wrap_i32]; omega
    rw [e]
    clear e ht hT hr hD
    go_enter Tryz.func77, Tryz.ntmps77
    go_wp2
    go_ret
    exact ⟨rfl, rfl⟩
  · have e := ht.2 (by omega)
    have t1 : -65537 ≤ t := by omega
    have t2 : t ≤ 65537 := by omega
    have W1 : IntKind.i64.wrap (D.tdiv n) = t := by rw [← hT, IntKind.wrap_i64]; omega
    have W2 : IntKind.i64.wrap (D.tmod n) = r := by rw [← hr, IntKind.wrap_i64]; omega
    have W6 : D.tdiv n = t := hT.symm
    have W7 : D.tmod n = r := hr.symm
    have W3 : wrap64 (D.tdiv n) = t := by rw [← hT]; unfold wrap64; omega
    have W4 : wrap64 (D.tmod n) = r := by rw [← hr]; unfold wrap64; omega
    have W5 : IntKind.i32.wrap t = t := by rw [IntKind.wrap_i32]; omega
    rw [e]
    clear e ht hT hr hD
    go_enter Tryz.func77, Tryz.ntmps77
    go_wp2
    go_ret
    exact ⟨rfl, rfl⟩

theorem root_ge {a b n : Int} (h : IsRoot n (lsq a b)) : (-n ≤ a ∧ a ≤ n) ∧ (-n ≤ b ∧ b ≤ n) := by
  have k : ∀ x y : Int, IsRoot n (x * x + y * y) → -n ≤ x ∧ x ≤ n := fun x y g => by
    have hy : 0 ≤ y * y := by
      by_cases c : 0 ≤ y
      · exact Int.mul_nonneg c c
      · rw [← Int.neg_mul_neg]; exact Int.mul_nonneg (by omega) (by omega)
    by_cases c : 0 ≤ x
    · have := (g.iff c).mp (by omega); omega
    · have := (g.iff (t := -x) (by omega)).mp (by rw [Int.neg_mul_neg]; omega); omega
  unfold lsq at h
  exact ⟨k a b h, k b a (by rw [Int.add_comm]; exact h)⟩

theorem unit_zero (a b : Int) (ha : InD a) (hb : InD b) (hn : Hid (IsRoot 0 (lsq a b))) (w : World) :
    Calls Tryz.prog 57 #[.int .i64 a, .int .i64 b] w fun e w' => e = .returned (.agg #[.int .i32 65536, .int .i32 0]) ∧ Grown w w' := by
  have C1 := Lib.hid (length_any a b 0 ha hb hn)
  go_enter Tryz.func57, Tryz.ntmps57
  go_wp2_with ((with_reducible refine (C1.out _).mono ?_); rintro e w1 ⟨rfl, rfl⟩)
  exact bodyPost_ret (v := .agg #[.int .i32 65536, .int .i32 0]) (by simp [results, Tryz.results57, go_sem]) rfl ⟨rfl, (Grown.refl _).alloc _ _⟩

theorem unit_pos (a b n x y : Int) (ha : InD a) (hb : InD b) (h0 : 0 < n) (hn : Hid (IsRoot n (lsq a b))) (hx : un a n = x) (hy : un b n = y) (w : World) :
    Calls Tryz.prog 57 #[.int .i64 a, .int .i64 b] w fun e w' => e = .returned (.agg #[.int .i32 x, .int .i32 y]) ∧ Grown w w' := by
  have C1 := Lib.hid (length_any a b n ha hb hn)
  have hl := lsq_in ha hb
  have h1 := hn.out.le_max (by omega)
  have g := root_ge hn.out
  have C2 := Lib.hid (ratio_any a n x ha h0 (by omega) g.1.1 g.1.2 hx)
  have C3 := Lib.hid (ratio_any b n y hb h0 (by omega) g.2.1 g.2.2 hy)
  have hz : (n == 0) = false := by simp; omega
  clear hx hy hl g
  go_enter Tryz.func57, Tryz.ntmps57
  go_wp2_with (first
    | ((with_reducible refine (C1.out _).mono ?_); rintro e w1 ⟨rfl, rfl⟩)
    | ((with_reducible refine (C2.out _).mono ?_); rintro e w1 ⟨rfl, rfl⟩)
    | ((with_reducible refine (C3.out _).mono ?_); rintro e w1 ⟨rfl, rfl⟩))
  exact bodyPost_ret (v := .agg #[.int .i32 x, .int .i32 y]) (by simp [results, Tryz.results57, go_sem]) rfl ⟨rfl, (Grown.refl _).alloc _ _⟩
end Go.Proofs.YtangalkbjochjaaGreatDoor
end

section
/-
  The reference implementation of package vec: each function returns the same as the program's.
-/
namespace Go.Proofs.YtangalkbjochjaaGreatDoor
open Go.RowKit Go.Lib

theorem sq_abs (a : Int) : -a * -a = a * a := Int.neg_mul_neg a a

set_option maxHeartbeats 1000000 in
theorem reflsq_any (a b t : Int) (ha : InD a) (hb : InD b) (ht : lsq a b = t) (w : World) :
    Calls Tryz.prog 41 #[.int .i64 a, .int .i64 b] w fun e w' => e = .returned (.int .u64 t) ∧ w = w' := by
  have m1 := sq_in ha
  have m2 := sq_in hb
  obtain ⟨h1, h2⟩ := ha; obtain ⟨h3, h4⟩ := hb
  unfold lsq at ht
  have s1 := sq_abs a
  have s2 := sq_abs b
  obtain ⟨x, hx⟩ : ∃ x, x = a * a := ⟨_, rfl⟩
  obtain ⟨y, hy⟩ : ∃ y, y = b * b := ⟨_, rfl⟩
  rw [← hx, ← hy] at ht
  rw [← hx] at m1 s1
  rw [← hy] at m2 s2
  have f5 : IntKind.u64.wrap x = x := by rw [IntKind.wrap_u64]; omega
  have f6 : IntKind.u64.wrap y = y := by rw [IntKind.wrap_u64]; omega
  have f7 : IntKind.u64.wrap (x + y) = t := by rw [IntKind.wrap_u64]; omega
  clear ht m1 m2
  by_cases c1 : a < 0
  · by_cases c2 : b < 0
    · obtain ⟨p1, hp1⟩ : ∃ p, p = -a := ⟨_, rfl⟩
      have g1 : 0 ≤ p1 := by omega
      have k1 : p1 ≤ 2181038080 := by omega
      rw [← hp1] at s1
      have n1 : -a = p1 := hp1.symm
      have q1 : IntKind.u64.wrap p1 = p1 := by rw [IntKind.wrap_u64]; omega
      have hppp1 := hp1
      clear hp1 hppp1
      obtain ⟨p2, hp2⟩ : ∃ p, p = -b := ⟨_, rfl⟩
      have g2 : 0 ≤ p2 := by omega
      have k2 : p2 ≤ 2181038080 := by omega
      rw [← hp2] at s2
      have n2 : -b = p2 := hp2.symm
      have q2 : IntKind.u64.wrap p2 = p2 := by rw [IntKind.wrap_u64]; omega
      have hppp2 := hp2
      clear hp2 hppp2
      clear hx hy
      go_enter Tryz.func41, Tryz.ntmps41
      go_wp2
      go_ret
      exact ⟨rfl, rfl⟩
    · obtain ⟨p1, hp1⟩ : ∃ p, p = -a := ⟨_, rfl⟩
      have g1 : 0 ≤ p1 := by omega
      have k1 : p1 ≤ 2181038080 := by omega
      rw [← hp1] at s1
      have n1 : -a = p1 := hp1.symm
      have q1 : IntKind.u64.wrap p1 = p1 := by rw [IntKind.wrap_u64]; omega
      have hppp1 := hp1
      clear hp1 hppp1
      have g2 : 0 ≤ b := by omega
      have e2 : b * b = y := hy.symm
      have q2 : IntKind.u64.wrap b = b := by rw [IntKind.wrap_u64]; omega
      clear s2
      clear hx hy
      go_enter Tryz.func41, Tryz.ntmps41
      go_wp2
      go_ret
      exact ⟨rfl, rfl⟩
  · by_cases c2 : b < 0
    · have g1 : 0 ≤ a := by omega
      have e1 : a * a = x := hx.symm
      have q1 : IntKind.u64.wrap a = a := by rw [IntKind.wrap_u64]; omega
      clear s1
      obtain ⟨p2, hp2⟩ : ∃ p, p = -b := ⟨_, rfl⟩
      have g2 : 0 ≤ p2 := by omega
      have k2 : p2 ≤ 2181038080 := by omega
      rw [← hp2] at s2
      have n2 : -b = p2 := hp2.symm
      have q2 : IntKind.u64.wrap p2 = p2 := by rw [IntKind.wrap_u64]; omega
      have hppp2 := hp2
      clear hp2 hppp2
      clear hx hy
      go_enter Tryz.func41, Tryz.ntmps41
      go_wp2
      go_ret
      exact ⟨rfl, rfl⟩
    · have g1 : 0 ≤ a := by omega
      have e1 : a * a = x := hx.symm
      have q1 : IntKind.u64.wrap a = a := by rw [IntKind.wrap_u64]; omega
      clear s1
      have g2 : 0 ≤ b := by omega
      have e2 : b * b = y := hy.symm
      have q2 : IntKind.u64.wrap b = b := by rw [IntKind.wrap_u64]; omega
      clear s2
      clear hx hy
      go_enter Tryz.func41, Tryz.ntmps41
      go_wp2
      go_ret
      exact ⟨rfl, rfl⟩

theorem reflen_any (a b n : Int) (ha : InD a) (hb : InD b) (hn : Hid (IsRoot n (lsq a b))) (w : World) :
    Calls Tryz.prog 28 #[.int .i64 a, .int .i64 b] w fun e w' => e = .returned (.int .i64 n) ∧ w = w' := by
  have hl := lsq_in ha hb
  have C1 := Lib.hid (reflsq_any a b (lsq a b) ha hb rfl)
  have C2 := Lib.hid (rsq1 hn.out (by omega))
  have h1 := hn.out.le_max (by omega)
  have h0 := hn.out.1
  go_enter Tryz.func28, Tryz.ntmps28
  go_wp2_with (first
    | ((with_reducible refine (C1.out _).mono ?_); rintro e w1 ⟨rfl, rfl⟩)
    | ((with_reducible refine (C2.out _).mono ?_); rintro e w1 ⟨rfl, rfl⟩))
  go_ret
  exact ⟨rfl, rfl⟩

theorem refunit_zero (w : World) :
    Calls Tryz.prog 27 #[.int .i64 0, .int .i64 0] w fun e w' => e = .returned (.agg #[.int .i32 65536, .int .i32 0]) ∧ Grown w w' := by
  go_enter Tryz.func27, Tryz.ntmps27
  go_wp2
  exact bodyPost_ret (v := .agg #[.int .i32 65536, .int .i32 0]) (by simp [results, Tryz.results27, go_sem]) rfl ⟨rfl, (Grown.refl _).alloc _ _⟩

theorem refunit_pos (a b n x y : Int) (ha : InD a) (hb : InD b) (h0 : 0 < n) (hz : a ≠ 0 ∨ b ≠ 0) (hn : Hid (IsRoot n (lsq a b))) (hx : un a n = x) (hy : un b n = y) (w : World) :
    Calls Tryz.prog 27 #[.int .i64 a, .int .i64 b] w fun e w' => e = .returned (.agg #[.int .i32 x, .int .i32 y]) ∧ Grown w w' := by
  have C1 := Lib.hid (reflen_any a b n ha hb hn)
  have hl := lsq_in ha hb
  have h1 := hn.out.le_max (by omega)
  have g := root_ge hn.out
  have u1 := un_in h0 g.1.1 g.1.2
  have u2 := un_in h0 g.2.1 g.2.2
  rw [hx] at u1
  rw [hy] at u2
  unfold un at hx hy
  obtain ⟨k1, k2⟩ := ha; obtain ⟨k3, k4⟩ := hb
  have C2 := Lib.hid (fun w => show Calls Tryz.prog 42 #[.int .i64 (a * 65536), .int .i64 n] w fun e w' => e = .returned (.int .i64 x) ∧ w = w' from by
    rw [← hx]; exact reffl_any (a * 65536) n (ik64 _ (by omega) (by omega)) h0 (by omega) w)
  have C3 := Lib.hid (fun w => show Calls Tryz.prog 42 #[.int .i64 (b * 65536), .int .i64 n] w fun e w' => e = .returned (.int .i64 y) ∧ w = w' from by
    rw [← hy]; exact reffl_any (b * 65536) n (ik64 _ (by omega) (by omega)) h0 (by omega) w)
  clear hx hy hl g
  have f1 : IntKind.i32.wrap x = x := by rw [IntKind.wrap_i32]; omega
  have f2 : IntKind.i32.wrap y = y := by rw [IntKind.wrap_i32]; omega
  by_cases c1 : a = 0
  · subst c1
    have c2 : (b == 0) = false := by simp; omega
    have c3 : decide (b = 0) = false := by simp; omega
    clear hz
    rw [Int.zero_mul] at C2
    go_enter Tryz.func27, Tryz.ntmps27
    go_wp2_with (first
      | ((with_reducible refine (C1.out _).mono ?_); rintro e w1 ⟨rfl, rfl⟩)
      | ((with_reducible refine (C2.out _).mono ?_); rintro e w1 ⟨rfl, rfl⟩)
      | ((with_reducible refine (C3.out _).mono ?_); rintro e w1 ⟨rfl, rfl⟩))
    exact bodyPost_ret (v := .agg #[.int .i32 x, .int .i32 y]) (by simp [results, Tryz.results27, go_sem]) rfl ⟨rfl, (Grown.refl _).alloc _ _⟩
  · have c2 : (a == 0) = false := by simp; omega
    clear hz
    go_enter Tryz.func27, Tryz.ntmps27
    go_wp2_with (first
      | ((with_reducible refine (C1.out _).mono ?_); rintro e w1 ⟨rfl, rfl⟩)
      | ((with_reducible refine (C2.out _).mono ?_); rintro e w1 ⟨rfl, rfl⟩)
      | ((with_reducible refine (C3.out _).mono ?_); rintro e w1 ⟨rfl, rfl⟩))
    exact bodyPost_ret (v := .agg #[.int .i32 x, .int .i32 y]) (by simp [results, Tryz.results27, go_sem]) rfl ⟨rfl, (Grown.refl _).alloc _ _⟩

end Go.Proofs.YtangalkbjochjaaGreatDoor
end

section
/-
  Lengths of differences: plain arithmetic for the laws of package vec.
-/
namespace Go.Proofs.YtangalkbjochjaaGreatDoor
open Go.RowKit Go.Lib

theorem lag (a b c d : Int) : (a * a + b * b) * (c * c + d * d) = (a * c + b * d) * (a * c + b * d) + (a * d - b * c) * (a * d - b * c) := by grind
theorem sq_nn (x : Int) : 0 ≤ x * x := by
  by_cases c : 0 ≤ x
  · exact Int.mul_nonneg c c
  · rw [← Int.neg_mul_neg]; exact Int.mul_nonneg (by omega) (by omega)
theorem mul_lt {x y p q : Int} (hx : 0 ≤ x) (hy : 0 ≤ y) (h1 : x < p) (h2 : y < q) : x * y < p * q := by
  have a := Int.mul_le_mul (show x ≤ p - 1 by omega) (show y ≤ q - 1 by omega) hy (show 0 ≤ p - 1 by omega)
  have e : (p - 1) * (q - 1) = p * q - p - q + 1 := by grind
  omega

theorem tri {n p q a b c d : Int} (hn : IsRoot n (lsq (a + c) (b + d))) (hp : IsRoot p (lsq a b)) (hq : IsRoot q (lsq c d)) : n ≤ p + q + 2 := by
  obtain ⟨n0, n1, _⟩ := hn
  obtain ⟨p0, _, p2⟩ := hp
  obtain ⟨q0, _, q2⟩ := hq
  have e1 : lsq (a + c) (b + d) = lsq a b + lsq c d + 2 * (a * c + b * d) := by unfold lsq; grind
  have hX : 0 ≤ lsq a b := by unfold lsq; have := sq_nn a; have := sq_nn b; omega
  have hY : 0 ≤ lsq c d := by unfold lsq; have := sq_nn c; have := sq_nn d; omega
  have hl : (a * c + b * d) * (a * c + b * d) ≤ lsq a b * lsq c d := by
    have := lag a b c d; have := sq_nn (a * d - b * c); unfold lsq; omega
  have hm := mul_lt hX hY p2 q2
  obtain ⟨t, ht⟩ : ∃ t, t = a * c + b * d := ⟨_, rfl⟩
  rw [← ht] at e1 hl
  have e2 : (p + 1) * (p + 1) * ((q + 1) * (q + 1)) = ((p + 1) * (q + 1)) * ((p + 1) * (q + 1)) := by grind
  have h0 : 0 ≤ (p + 1) * (q + 1) := Int.mul_nonneg (by omega) (by omega)
  have htt : t < (p + 1) * (q + 1) := by
    by_cases c : t < (p + 1) * (q + 1)
    · exact c
    · have := sq_le h0 (show (p + 1) * (q + 1) ≤ t by omega); omega
  have e3 : (p + q + 2) * (p + q + 2) = (p + 1) * (p + 1) + (q + 1) * (q + 1) + 2 * ((p + 1) * (q + 1)) := by grind
  by_cases c : n ≤ p + q + 2
  · exact c
  · have := sq_le (show 0 ≤ p + q + 2 by omega) (show p + q + 2 ≤ n by omega); omega

end Go.Proofs.YtangalkbjochjaaGreatDoor
end

section
/-
  Package vec: the contracts of its functions, by named results; the fixed examples of its laws.
-/
namespace Go.Proofs.YtangalkbjochjaaGreatDoor
open Go.RowKit Go.Lib

abbrev Lsq2 (a b t : Int) : Prop := ∀ w, Calls Tryz.prog 76 #[.int .i64 a, .int .i64 b] w fun e w' => e = .returned (.int .u64 t) ∧ w = w'
abbrev Len2 (a b n : Int) : Prop := ∀ w, Calls Tryz.prog 58 #[.int .i64 a, .int .i64 b] w fun e w' => e = .returned (.int .i64 n) ∧ w = w'
abbrev Uni2 (a b x y : Int) : Prop := ∀ w, Calls Tryz.prog 57 #[.int .i64 a, .int .i64 b] w fun e w' => e = .returned (.agg #[.int .i32 x, .int .i32 y]) ∧ Grown w w'
abbrev Rlsq2 (a b t : Int) : Prop := ∀ w, Calls Tryz.prog 41 #[.int .i64 a, .int .i64 b] w fun e w' => e = .returned (.int .u64 t) ∧ w = w'
abbrev Rlen2 (a b n : Int) : Prop := ∀ w, Calls Tryz.prog 28 #[.int .i64 a, .int .i64 b] w fun e w' => e = .returned (.int .i64 n) ∧ w = w'
abbrev Runi2 (a b x y : Int) : Prop := ∀ w, Calls Tryz.prog 27 #[.int .i64 a, .int .i64 b] w fun e w' => e = .returned (.agg #[.int .i32 x, .int .i32 y]) ∧ Grown w w'
abbrev Dff4 (a b c d x y : Int) : Prop := ∀ w, Calls Tryz.prog 74 #[.agg #[.int .i32 a, .int .i32 b], .agg #[.int .i32 c, .int .i32 d]] w fun e w' => e = .returned (.tuple #[.int .i64 x, .int .i64 y]) ∧ Grown w w'
theorem lsq2 {a b t : Int} (ha : InD a) (hb : InD b) (ht : lsq a b = t) : Lsq2 a b t := fun w => lengthsq_any a b t ha hb ht w
theorem len2 {a b n : Int} (ha : InD a) (hb : InD b) (hn : IsRoot n (lsq a b)) : Len2 a b n := fun w => length_any a b n ha hb (Lib.hid hn) w
theorem rlsq2 {a b t : Int} (ha : InD a) (hb : InD b) (ht : lsq a b = t) : Rlsq2 a b t := fun w => reflsq_any a b t ha hb ht w
theorem rlen2 {a b n : Int} (ha : InD a) (hb : InD b) (hn : IsRoot n (lsq a b)) : Rlen2 a b n := fun w => reflen_any a b n ha hb (Lib.hid hn) w

/-- The unit vector's components. -/
def ux (a n : Int) : Int := if n = 0 then 65536 else un a n
def uy (b n : Int) : Int := if n = 0 then 0 else un b n
theorem lsq_zero {a b : Int} (h : IsRoot 0 (lsq a b)) : a = 0 ∧ b = 0 := by
  have g := root_ge h
  exact ⟨by omega, by omega⟩
theorem uni2 {a b n x y : Int} (ha : InD a) (hb : InD b) (hn : IsRoot n (lsq a b)) (hx : ux a n = x) (hy : uy b n = y) : Uni2 a b x y := fun w => by
  by_cases c : n = 0
  · subst c
    have e1 : x = 65536 := by rw [← hx]; rfl
    have e2 : y = 0 := by rw [← hy]; rfl
    rw [e1, e2]
    exact unit_zero a b ha hb (Lib.hid hn) w
  · unfold ux at hx
    unfold uy at hy
    rw [if_neg c] at hx hy
    exact unit_pos a b n x y ha hb (by have := hn.1; omega) (Lib.hid hn) hx hy w
theorem runi2 {a b n x y : Int} (ha : InD a) (hb : InD b) (hn : IsRoot n (lsq a b)) (hx : ux a n = x) (hy : uy b n = y) : Runi2 a b x y := fun w => by
  by_cases c : n = 0
  · subst c
    have e1 : x = 65536 := by rw [← hx]; rfl
    have e2 : y = 0 := by rw [← hy]; rfl
    obtain ⟨rfl, rfl⟩ := lsq_zero hn
    rw [e1, e2]
    exact refunit_zero w
  · unfold ux at hx
    unfold uy at hy
    rw [if_neg c] at hx hy
    have hz : a ≠ 0 ∨ b ≠ 0 := by
      by_cases c1 : a = 0
      · refine .inr fun c2 => c ?_
        subst c1; subst c2
        exact hn.unique ⟨by decide, by decide, by decide⟩
      · exact .inl c1
    exact refunit_pos a b n x y ha hb (by have := hn.1; omega) hz (Lib.hid hn) hx hy w
theorem dff4 {a b c d x y : Int} (ha : I32 a) (hb : I32 b) (hc : I32 c) (hd : I32 d) (hx : c - a = x) (hy : d - b = y) : Dff4 a b c d x y := fun w => by rw [← hx, ← hy]; exact diff_any a b c d ha hb hc hd w
theorem ind (d : Int) (h1 : -2181038080 ≤ d := by decide) (h2 : d ≤ 2181038080 := by decide) : InD d := ⟨h1, h2⟩

end Go.Proofs.YtangalkbjochjaaGreatDoor
end
