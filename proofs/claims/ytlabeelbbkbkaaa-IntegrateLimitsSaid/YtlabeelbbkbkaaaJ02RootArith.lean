import Derived.Test.YtlabeelbbkbkaaaProg
import Derived.Test.YtlabeelbbkbkaaaJ01FxRef
import Derived.WalkKit
import Derived.Lib.EndianBits
import Derived.Lib.Walk
import Derived.Lib.Hide
import Derived.Lib.Small
import Derived.Laws.Bits64b
import Derived.Test.YtlabeelbbkbkaaaJ00DivArith
import Derived.Deep.QuietTactic
import Derived.BigQuiet
import Derived.Deep.RegionHeld3
import Derived.StillTailTactics

/-! J02RootArith: RootArith, VecLen, VecArith, VecCon, PointMath, SegMath. -/

section
/-
  Whole square roots: plain arithmetic, of no program.
-/
namespace Go.Proofs.Ytlabeelbbkbkaaa

/-- r is the greatest number whose square is at most n. -/
def IsRoot (r n : Int) : Prop := 0 ≤ r ∧ r * r ≤ n ∧ n < (r + 1) * (r + 1)
theorem sq_le {a b : Int} (h0 : 0 ≤ a) (h : a ≤ b) : a * a ≤ b * b := Int.mul_le_mul h h h0 (by omega)
theorem IsRoot.iff {r n t : Int} (h : IsRoot r n) (ht : 0 ≤ t) : t * t ≤ n ↔ t ≤ r := by
  obtain ⟨h0, h1, h2⟩ := h
  constructor
  · intro c
    by_cases d : t ≤ r
    · exact d
    · have := sq_le (a := r + 1) (b := t) (by omega) (by omega); omega
  · intro c
    have := sq_le ht c
    omega
theorem IsRoot.mono {r s n m : Int} (h : IsRoot r n) (g : IsRoot s m) (hn : n ≤ m) : r ≤ s :=
  (g.iff h.1).mp (Int.le_trans h.2.1 hn)
theorem IsRoot.le_max {r n : Int} (h : IsRoot r n) (hn : n < 18446744073709551616) : r ≤ 4294967295 := by
  by_cases c : r ≤ 4294967295
  · exact c
  · have := (h.iff (t := 4294967296) (by decide)).mpr (by omega)
    omega
/-- The root of a natural number, counted up. -/
def rtN : Nat → Nat
  | 0 => 0
  | n + 1 => if (rtN n + 1) * (rtN n + 1) ≤ n + 1 then rtN n + 1 else rtN n

theorem rtN_is : ∀ n : Nat, rtN n * rtN n ≤ n ∧ n < (rtN n + 1) * (rtN n + 1)
  | 0 => by decide
  | n + 1 => by
    obtain ⟨a, b⟩ := rtN_is n
    rw [rtN]
    split
    · rename_i c
      refine ⟨c, ?_⟩
      have e : (rtN n + 1 + 1) * (rtN n + 1 + 1) = (rtN n + 1) * (rtN n + 1) + 2 * (rtN n + 1) + 1 := by rw [Nat.add_mul, Nat.mul_add]; omega
      omega
    · exact ⟨by omega, by omega⟩

/-- The whole square root of a number. -/
def rt (n : Int) : Int := (rtN n.toNat : Int)

theorem rt_is {n : Int} (h : 0 ≤ n) : IsRoot (rt n) n := by
  obtain ⟨m, rfl⟩ := Int.eq_ofNat_of_zero_le h
  obtain ⟨a, b⟩ := rtN_is m
  have e : rt (m : Int) = (rtN m : Int) := rfl
  rw [e]
  refine ⟨by omega, ?_, ?_⟩
  · rw [← Int.natCast_mul]; omega
  · have : ((rtN m : Int) + 1) * ((rtN m : Int) + 1) = (((rtN m + 1) * (rtN m + 1) : Nat) : Int) := by rw [Int.natCast_mul]; rfl
    rw [this]; omega
/-- The whole square root of a number, rounded up. -/
def ct (n : Int) : Int := if rt n * rt n < n then rt n + 1 else rt n

end Go.Proofs.Ytlabeelbbkbkaaa
end

section
/-
  Package vec: differences, their lengths and unit vectors, for all arguments in range.
-/
namespace Go.Proofs.Ytlabeelbbkbkaaa
open Go.RowKit Go.Lib

/-- A component of a difference, in range. -/
def InD (d : Int) : Prop := -2181038080 ≤ d ∧ d ≤ 2181038080
/-- The sum of the squares. -/
def lsq (a b : Int) : Int := a * a + b * b
/-- A component of the unit vector. -/
def un (d n : Int) : Int := d * 65536 / n

theorem sq_in {d : Int} (h : InD d) : 0 ≤ d * d ∧ d * d ≤ 4756927106410086400 := by
  obtain ⟨h1, h2⟩ := h
  by_cases c : 0 ≤ d
  · exact ⟨Int.mul_nonneg c c, Int.mul_le_mul h2 h2 c (by decide)⟩
  · have e : d * d = -d * -d := (Int.neg_mul_neg d d).symm
    rw [e]
    exact ⟨Int.mul_nonneg (by omega) (by omega), Int.mul_le_mul (show -d ≤ 2181038080 by omega) (show -d ≤ 2181038080 by omega) (by omega) (by decide)⟩
theorem lsq_in {a b : Int} (ha : InD a) (hb : InD b) : 0 ≤ lsq a b ∧ lsq a b ≤ 9513854212820172800 := by
  have := sq_in ha; have := sq_in hb; unfold lsq; omega

theorem root_ge {a b n : Int} (h : IsRoot n (lsq a b)) : (-n ≤ a ∧ a ≤ n) ∧ (-n ≤ b ∧ b ≤ n) := by
  have k : ∀ x y : Int, IsRoot n (x * x + y * y) → -n ≤ x ∧ x ≤ n := fun x y g => by
    have hy : 0 ≤ y * y := by
      by_cases c : 0 ≤ y
      · exact Int.mul_nonneg c c
      · rw [← Int.neg_mul_neg]; exact Int.mul_nonneg (by omega) (by omega)
    by_cases c : 0 ≤ x
    · have := (g.iff c).mp (by omega); omega
    · have := (g.iff (t := -x) (by omega)).mp (by rw [Int.neg_mul_neg]; omega); omega
  unfold lsq at h
  exact ⟨k a b h, k b a (by rw [Int.add_comm]; exact h)⟩

end Go.Proofs.Ytlabeelbbkbkaaa
end

section
/-
  Lengths of differences: plain arithmetic for the laws of package vec.
-/
namespace Go.Proofs.Ytlabeelbbkbkaaa
open Go.RowKit Go.Lib

theorem lag (a b c d : Int) : (a * a + b * b) * (c * c + d * d) = (a * c + b * d) * (a * c + b * d) + (a * d - b * c) * (a * d - b * c) := by grind
theorem sq_nn (x : Int) : 0 ≤ x * x := by
  by_cases c : 0 ≤ x
  · exact Int.mul_nonneg c c
  · rw [← Int.neg_mul_neg]; exact Int.mul_nonneg (by omega) (by omega)
theorem mul_lt {x y p q : Int} (hx : 0 ≤ x) (hy : 0 ≤ y) (h1 : x < p) (h2 : y < q) : x * y < p * q := by
  have a := Int.mul_le_mul (show x ≤ p - 1 by omega) (show y ≤ q - 1 by omega) hy (show 0 ≤ p - 1 by omega)
  have e : (p - 1) * (q - 1) = p * q - p - q + 1 := by grind
  omega

theorem tri {n p q a b c d : Int} (hn : IsRoot n (lsq (a + c) (b + d))) (hp : IsRoot p (lsq a b)) (hq : IsRoot q (lsq c d)) : n ≤ p + q + 2 := by
  obtain ⟨n0, n1, _⟩ := hn
  obtain ⟨p0, _, p2⟩ := hp
  obtain ⟨q0, _, q2⟩ := hq
  have e1 : lsq (a + c) (b + d) = lsq a b + lsq c d + 2 * (a * c + b * d) := by unfold lsq; grind
  have hX : 0 ≤ lsq a b := by unfold lsq; have := sq_nn a; have := sq_nn b; omega
  have hY : 0 ≤ lsq c d := by unfold lsq; have := sq_nn c; have := sq_nn d; omega
  have hl : (a * c + b * d) * (a * c + b * d) ≤ lsq a b * lsq c d := by
    have := lag a b c d; have := sq_nn (a * d - b * c); unfold lsq; omega
  have hm := mul_lt hX hY p2 q2
  obtain ⟨t, ht⟩ : ∃ t, t = a * c + b * d := ⟨_, rfl⟩
  rw [← ht] at e1 hl
  have e2 : (p + 1) * (p + 1) * ((q + 1) * (q + 1)) = ((p + 1) * (q + 1)) * ((p + 1) * (q + 1)) := by grind
  have h0 : 0 ≤ (p + 1) * (q + 1) := Int.mul_nonneg (by omega) (by omega)
  have htt : t < (p + 1) * (q + 1) := by
    by_cases c : t < (p + 1) * (q + 1)
    · exact c
    · have := sq_le h0 (show (p + 1) * (q + 1) ≤ t by omega); omega
  have e3 : (p + q + 2) * (p + q + 2) = (p + 1) * (p + 1) + (q + 1) * (q + 1) + 2 * ((p + 1) * (q + 1)) := by grind
  by_cases c : n ≤ p + q + 2
  · exact c
  · have := sq_le (show 0 ≤ p + q + 2 by omega) (show p + q + 2 ≤ n by omega); omega

end Go.Proofs.Ytlabeelbbkbkaaa
end

section
/-
  Package vec: the contracts of its functions, by named results; the fixed examples of its laws.
-/
namespace Go.Proofs.Ytlabeelbbkbkaaa
open Go.RowKit Go.Lib

/-- The unit vector's components. -/
def ux (a n : Int) : Int := if n = 0 then 65536 else un a n
def uy (b n : Int) : Int := if n = 0 then 0 else un b n
theorem lsq_zero {a b : Int} (h : IsRoot 0 (lsq a b)) : a = 0 ∧ b = 0 := by
  have g := root_ge h
  exact ⟨by omega, by omega⟩
theorem ind (d : Int) (h1 : -2181038080 ≤ d := by decide) (h2 : d ≤ 2181038080 := by decide) : InD d := ⟨h1, h2⟩

end Go.Proofs.Ytlabeelbbkbkaaa
end

section
/-
  Package point: the arithmetic of nearest points (no program).
-/
namespace Go.Proofs.Ytlabeelbbkbkaaa

/-- A number limited to the range from 0 to d. -/
def limP (n d : Int) : Int := if n < 0 then 0 else if d < n then d else n
def sqP (dx dy : Int) : Int := dx * dx + dy * dy
/-- The numerator of the parameter: (ux, uy) from p to c, (dx, dy) from p to q. -/
def paP (ux uy dx dy : Int) : Int := limP (ux * dx + uy * dy) (sqP dx dy)
/-- What the nearest point is away from p, in one direction. -/
def stP (dx n d : Int) : Int := if d = 0 then 0 else dx * n / d
theorem limP_in {n d : Int} (h : 0 ≤ d) : 0 ≤ limP n d ∧ limP n d ≤ d := by
  unfold limP
  split
  · omega
  · split <;> omega
theorem sqP_nn (dx dy : Int) : 0 ≤ sqP dx dy := by
  unfold sqP
  have h1 : 0 ≤ dx * dx := by rcases Int.le_total 0 dx with h | h; exact Int.mul_nonneg h h; exact Int.mul_nonneg_of_nonpos_of_nonpos h h
  have h2 : 0 ≤ dy * dy := by rcases Int.le_total 0 dy with h | h; exact Int.mul_nonneg h h; exact Int.mul_nonneg_of_nonpos_of_nonpos h h
  omega
theorem paP_in (ux uy dx dy : Int) : 0 ≤ paP ux uy dx dy ∧ paP ux uy dx dy ≤ sqP dx dy := limP_in (sqP_nn dx dy)
/-- A step lies between 0 and dx. -/
theorem stP_in {dx n d : Int} (h0 : 0 ≤ n) (h1 : n ≤ d) : min 0 dx ≤ stP dx n d ∧ stP dx n d ≤ max 0 dx := by
  unfold stP
  split
  · omega
  · have hd : 0 < d := by omega
    have e1 : dx * d / d = dx := Int.mul_ediv_cancel dx (by omega)
    have e2 : (0 : Int) * d / d = 0 := by simp
    rcases Int.le_total 0 dx with c | c
    · have a1 : dx * n ≤ dx * d := Int.mul_le_mul_of_nonneg_left h1 c
      have a2 : 0 ≤ dx * n := Int.mul_nonneg c h0
      have b1 := Int.ediv_le_ediv hd a1
      have b2 := Int.ediv_nonneg a2 (by omega : 0 ≤ d)
      rw [e1] at b1
      omega
    · have a1 : dx * d ≤ dx * n := Int.mul_le_mul_of_nonpos_left c h1
      have a2 : dx * n ≤ 0 := Int.mul_nonpos_of_nonpos_of_nonneg c h0
      have b1 := Int.ediv_le_ediv hd a1
      have b2 := Int.ediv_le_ediv hd (show dx * n ≤ 0 * d by omega)
      rw [e1] at b1
      rw [e2] at b2
      omega
end Go.Proofs.Ytlabeelbbkbkaaa
end

section
/-
  Package segment: the arithmetic of the chosen points (no program).
-/
namespace Go.Proofs.Ytlabeelbbkbkaaa

def sq2 (a b : Int) : Int := a * a + b * b
def nX (px py qx qy cx cy : Int) : Int := px + stP (qx - px) (paP (cx - px) (cy - py) (qx - px) (qy - py)) (sqP (qx - px) (qy - py))
def nY (px py qx qy cx cy : Int) : Int := py + stP (qy - py) (paP (cx - px) (cy - py) (qx - px) (qy - py)) (sqP (qx - px) (qy - py))
/-- Two points and the square of their distance. -/
structure Tw where
  a : Int
  b : Int
  c : Int
  d : Int
  t : Int
def mkT (a b c d : Int) : Tw := ⟨a, b, c, d, sq2 (c - a) (d - b)⟩
def pk (u v : Tw) : Tw := if v.t < u.t then v else u
def tw0 (a b _c _d e f g h : Int) : Tw := mkT a b (nX e f g h a b) (nY e f g h a b)
def tw1 (_a _b c d e f g h : Int) : Tw := mkT c d (nX e f g h c d) (nY e f g h c d)
def tw2 (a b c d e f _g _h : Int) : Tw := mkT (nX a b c d e f) (nY a b c d e f) e f
def tw3 (a b c d _e _f g h : Int) : Tw := mkT (nX a b c d g h) (nY a b c d g h) g h
def chs (a b c d e f g h : Int) : Tw := pk (pk (pk (tw0 a b c d e f g h) (tw1 a b c d e f g h)) (tw2 a b c d e f g h)) (tw3 a b c d e f g h)
theorem pk_or (u v : Tw) : pk u v = u ∨ pk u v = v := by
  unfold pk
  split
  · exact .inr rfl
  · exact .inl rfl
theorem chs_or (a b c d e f g h : Int) : chs a b c d e f g h = tw0 a b c d e f g h ∨ chs a b c d e f g h = tw1 a b c d e f g h ∨ chs a b c d e f g h = tw2 a b c d e f g h ∨ chs a b c d e f g h = tw3 a b c d e f g h := by
  unfold chs
  rcases pk_or (pk (pk (tw0 a b c d e f g h) (tw1 a b c d e f g h)) (tw2 a b c d e f g h)) (tw3 a b c d e f g h) with q | q
  · rw [q]
    rcases pk_or (pk (tw0 a b c d e f g h) (tw1 a b c d e f g h)) (tw2 a b c d e f g h) with q | q
    · rw [q]
      rcases pk_or (tw0 a b c d e f g h) (tw1 a b c d e f g h) with q | q
      · exact .inl q
      · exact .inr (.inl q)
    · exact .inr (.inr (.inl q))
  · exact .inr (.inr (.inr q))
theorem nX_pt (p q c d : Int) : nX p q p q c d = p ∧ nY p q p q c d = q := by
  unfold nX nY stP
  rw [Int.sub_self, Int.sub_self]
  have e : sqP 0 0 = 0 := rfl
  rw [e, if_pos rfl]
  omega
theorem chs_pts (a b e f : Int) : (chs a b a b e f e f).a = a ∧ (chs a b a b e f e f).b = b ∧ (chs a b a b e f e f).c = e ∧ (chs a b a b e f e f).d = f := by
  rcases chs_or a b a b e f e f with q | q | q | q <;> rw [q]
  · exact ⟨rfl, rfl, (nX_pt _ _ _ _).1, (nX_pt _ _ _ _).2⟩
  · exact ⟨rfl, rfl, (nX_pt _ _ _ _).1, (nX_pt _ _ _ _).2⟩
  · exact ⟨(nX_pt _ _ _ _).1, (nX_pt _ _ _ _).2, rfl, rfl⟩
  · exact ⟨(nX_pt _ _ _ _).1, (nX_pt _ _ _ _).2, rfl, rfl⟩
theorem nX_mv (p q r s c d v u : Int) : nX (p + v) (q + u) (r + v) (s + u) (c + v) (d + u) = nX p q r s c d + v ∧ nY (p + v) (q + u) (r + v) (s + u) (c + v) (d + u) = nY p q r s c d + u := by
  unfold nX nY
  have e1 : r + v - (p + v) = r - p := by omega
  have e2 : s + u - (q + u) = s - q := by omega
  have e3 : c + v - (p + v) = c - p := by omega
  have e4 : d + u - (q + u) = d - q := by omega
  rw [e1, e2, e3, e4]
  omega
def mvT (v u : Int) (x : Tw) : Tw := ⟨x.a + v, x.b + u, x.c + v, x.d + u, x.t⟩
theorem mkT_mv (a b c d v u : Int) : mkT (a + v) (b + u) (c + v) (d + u) = mvT v u (mkT a b c d) := by
  unfold mkT mvT
  have e1 : c + v - (a + v) = c - a := by omega
  have e2 : d + u - (b + u) = d - b := by omega
  rw [e1, e2]
theorem pk_mv (v u : Int) (x y : Tw) : pk (mvT v u x) (mvT v u y) = mvT v u (pk x y) := by
  unfold pk
  show (if y.t < x.t then _ else _) = _
  split <;> rfl
theorem chs_mv (a b c d e f g h v u : Int) : chs (a + v) (b + u) (c + v) (d + u) (e + v) (f + u) (g + v) (h + u) = mvT v u (chs a b c d e f g h) := by
  unfold chs tw0 tw1 tw2 tw3
  rw [(nX_mv e f g h a b v u).1, (nX_mv e f g h a b v u).2, (nX_mv e f g h c d v u).1, (nX_mv e f g h c d v u).2, (nX_mv a b c d e f v u).1, (nX_mv a b c d e f v u).2, (nX_mv a b c d g h v u).1, (nX_mv a b c d g h v u).2, mkT_mv, mkT_mv, mkT_mv, mkT_mv, pk_mv, pk_mv, pk_mv]
end Go.Proofs.Ytlabeelbbkbkaaa
end
