/-
  Package segment: the arithmetic of the chosen points (no program).
-/
import Derived.Test.YtlcenopebgkjgaaPointMath
namespace Go.Proofs.Ytlcenopebgkjgaa

def sq2 (a b : Int) : Int := a * a + b * b
theorem sq2_neg (a b c d : Int) : sq2 (a - b) (c - d) = sq2 (b - a) (d - c) := by unfold sq2; grind
theorem sq2_nn (a b : Int) : 0 ≤ sq2 a b := sqP_nn a b
theorem sq2_self (a b : Int) : sq2 (a - a) (b - b) = 0 := by rw [Int.sub_self, Int.sub_self]; rfl
def nX (px py qx qy cx cy : Int) : Int := px + stP (qx - px) (paP (cx - px) (cy - py) (qx - px) (qy - py)) (sqP (qx - px) (qy - py))
def nY (px py qx qy cx cy : Int) : Int := py + stP (qy - py) (paP (cx - px) (cy - py) (qx - px) (qy - py)) (sqP (qx - px) (qy - py))
/-- Two points and the square of their distance. -/
structure Tw where
  a : Int
  b : Int
  c : Int
  d : Int
  t : Int
def mkT (a b c d : Int) : Tw := ⟨a, b, c, d, sq2 (c - a) (d - b)⟩
def pk (u v : Tw) : Tw := if v.t < u.t then v else u
def tw0 (a b _c _d e f g h : Int) : Tw := mkT a b (nX e f g h a b) (nY e f g h a b)
def tw1 (_a _b c d e f g h : Int) : Tw := mkT c d (nX e f g h c d) (nY e f g h c d)
def tw2 (a b c d e f _g _h : Int) : Tw := mkT (nX a b c d e f) (nY a b c d e f) e f
def tw3 (a b c d _e _f g h : Int) : Tw := mkT (nX a b c d g h) (nY a b c d g h) g h
def chs (a b c d e f g h : Int) : Tw := pk (pk (pk (tw0 a b c d e f g h) (tw1 a b c d e f g h)) (tw2 a b c d e f g h)) (tw3 a b c d e f g h)
theorem pk_t (u v : Tw) : (pk u v).t = min u.t v.t := by
  unfold pk
  split <;> omega
theorem pk_or (u v : Tw) : pk u v = u ∨ pk u v = v := by
  unfold pk
  split
  · exact .inr rfl
  · exact .inl rfl
theorem chs_t (a b c d e f g h : Int) : (chs a b c d e f g h).t = min (min (min (tw0 a b c d e f g h).t (tw1 a b c d e f g h).t) (tw2 a b c d e f g h).t) (tw3 a b c d e f g h).t := by
  unfold chs
  rw [pk_t, pk_t, pk_t]
theorem chs_or (a b c d e f g h : Int) : chs a b c d e f g h = tw0 a b c d e f g h ∨ chs a b c d e f g h = tw1 a b c d e f g h ∨ chs a b c d e f g h = tw2 a b c d e f g h ∨ chs a b c d e f g h = tw3 a b c d e f g h := by
  unfold chs
  rcases pk_or (pk (pk (tw0 a b c d e f g h) (tw1 a b c d e f g h)) (tw2 a b c d e f g h)) (tw3 a b c d e f g h) with q | q
  · rw [q]
    rcases pk_or (pk (tw0 a b c d e f g h) (tw1 a b c d e f g h)) (tw2 a b c d e f g h) with q | q
    · rw [q]
      rcases pk_or (tw0 a b c d e f g h) (tw1 a b c d e f g h) with q | q
      · exact .inl q
      · exact .inr (.inl q)
    · exact .inr (.inr (.inl q))
  · exact .inr (.inr (.inr q))
theorem chs_sq (a b c d e f g h : Int) : (chs a b c d e f g h).t = sq2 ((chs a b c d e f g h).c - (chs a b c d e f g h).a) ((chs a b c d e f g h).d - (chs a b c d e f g h).b) := by
  rcases chs_or a b c d e f g h with q | q | q | q <;> rw [q] <;> rfl
/-- One of the chosen points is an end. -/
theorem chs_end (a b c d e f g h : Int) : ((chs a b c d e f g h).a = a ∧ (chs a b c d e f g h).b = b) ∨ ((chs a b c d e f g h).a = c ∧ (chs a b c d e f g h).b = d) ∨ ((chs a b c d e f g h).c = e ∧ (chs a b c d e f g h).d = f) ∨ ((chs a b c d e f g h).c = g ∧ (chs a b c d e f g h).d = h) := by
  rcases chs_or a b c d e f g h with q | q | q | q <;> rw [q]
  · exact .inl ⟨rfl, rfl⟩
  · exact .inr (.inl ⟨rfl, rfl⟩)
  · exact .inr (.inr (.inl ⟨rfl, rfl⟩))
  · exact .inr (.inr (.inr ⟨rfl, rfl⟩))
theorem chs_sym (a b c d e f g h : Int) : (chs a b c d e f g h).t = (chs e f g h a b c d).t := by
  rw [chs_t, chs_t]
  have e0 : (tw0 a b c d e f g h).t = (tw2 e f g h a b c d).t := sq2_neg _ _ _ _
  have e1 : (tw1 a b c d e f g h).t = (tw3 e f g h a b c d).t := sq2_neg _ _ _ _
  have e2 : (tw2 a b c d e f g h).t = (tw0 e f g h a b c d).t := sq2_neg _ _ _ _
  have e3 : (tw3 a b c d e f g h).t = (tw1 e f g h a b c d).t := sq2_neg _ _ _ _
  rw [e0, e1, e2, e3]
  omega
theorem nX_pt (p q c d : Int) : nX p q p q c d = p ∧ nY p q p q c d = q := by
  unfold nX nY stP
  rw [Int.sub_self, Int.sub_self]
  have e : sqP 0 0 = 0 := rfl
  rw [e, if_pos rfl]
  omega
theorem nX_self (p q c d : Int) : nX p q c d p q = p ∧ nY p q c d p q = q := by
  unfold nX nY
  have e : paP (p - p) (q - q) (c - p) (d - q) = 0 := by
    unfold paP limP
    have := sqP_nn (c - p) (d - q)
    rw [Int.sub_self, Int.sub_self, Int.zero_mul, Int.zero_mul]
    split
    · rfl
    · split <;> omega
  rw [e, stP_zero, stP_zero]
  omega
theorem chs_pts (a b e f : Int) : (chs a b a b e f e f).a = a ∧ (chs a b a b e f e f).b = b ∧ (chs a b a b e f e f).c = e ∧ (chs a b a b e f e f).d = f := by
  rcases chs_or a b a b e f e f with q | q | q | q <;> rw [q]
  · exact ⟨rfl, rfl, (nX_pt _ _ _ _).1, (nX_pt _ _ _ _).2⟩
  · exact ⟨rfl, rfl, (nX_pt _ _ _ _).1, (nX_pt _ _ _ _).2⟩
  · exact ⟨(nX_pt _ _ _ _).1, (nX_pt _ _ _ _).2, rfl, rfl⟩
  · exact ⟨(nX_pt _ _ _ _).1, (nX_pt _ _ _ _).2, rfl, rfl⟩
theorem tw_nn (a b c d : Int) : 0 ≤ (mkT a b c d).t := sq2_nn _ _
theorem chs_nn (a b c d e f g h : Int) : 0 ≤ (chs a b c d e f g h).t := by
  rw [chs_sq]
  exact sq2_nn _ _
theorem chs_self (a b c d : Int) : (chs a b c d a b c d).t = 0 := by
  have h := chs_nn a b c d a b c d
  have e0 : (tw0 a b c d a b c d).t = 0 := by
    unfold tw0
    rw [(nX_self a b c d).1, (nX_self a b c d).2]
    exact sq2_self _ _
  rw [chs_t, e0] at *
  omega
theorem nX_mv (p q r s c d v u : Int) : nX (p + v) (q + u) (r + v) (s + u) (c + v) (d + u) = nX p q r s c d + v ∧ nY (p + v) (q + u) (r + v) (s + u) (c + v) (d + u) = nY p q r s c d + u := by
  unfold nX nY
  have e1 : r + v - (p + v) = r - p := by omega
  have e2 : s + u - (q + u) = s - q := by omega
  have e3 : c + v - (p + v) = c - p := by omega
  have e4 : d + u - (q + u) = d - q := by omega
  rw [e1, e2, e3, e4]
  omega
def mvT (v u : Int) (x : Tw) : Tw := ⟨x.a + v, x.b + u, x.c + v, x.d + u, x.t⟩
theorem mkT_mv (a b c d v u : Int) : mkT (a + v) (b + u) (c + v) (d + u) = mvT v u (mkT a b c d) := by
  unfold mkT mvT
  have e1 : c + v - (a + v) = c - a := by omega
  have e2 : d + u - (b + u) = d - b := by omega
  rw [e1, e2]
theorem pk_mv (v u : Int) (x y : Tw) : pk (mvT v u x) (mvT v u y) = mvT v u (pk x y) := by
  unfold pk
  show (if y.t < x.t then _ else _) = _
  split <;> rfl
theorem chs_mv (a b c d e f g h v u : Int) : chs (a + v) (b + u) (c + v) (d + u) (e + v) (f + u) (g + v) (h + u) = mvT v u (chs a b c d e f g h) := by
  unfold chs tw0 tw1 tw2 tw3
  rw [(nX_mv e f g h a b v u).1, (nX_mv e f g h a b v u).2, (nX_mv e f g h c d v u).1, (nX_mv e f g h c d v u).2, (nX_mv a b c d e f v u).1, (nX_mv a b c d e f v u).2, (nX_mv a b c d g h v u).1, (nX_mv a b c d g h v u).2, mkT_mv, mkT_mv, mkT_mv, mkT_mv, pk_mv, pk_mv, pk_mv]
/-- A segment of one point. -/
theorem chs_one (a b e f g h : Int) : (chs a b a b e f g h).t = min (sq2 (nX e f g h a b - a) (nY e f g h a b - b)) (min (sq2 (e - a) (f - b)) (sq2 (g - a) (h - b))) := by
  rw [chs_t]
  have e2 : (tw2 a b a b e f g h).t = sq2 (e - a) (f - b) := by
    unfold tw2
    rw [(nX_pt a b e f).1, (nX_pt a b e f).2]
    rfl
  have e3 : (tw3 a b a b e f g h).t = sq2 (g - a) (h - b) := by
    unfold tw3
    rw [(nX_pt a b g h).1, (nX_pt a b g h).2]
    rfl
  have e0 : (tw0 a b a b e f g h).t = sq2 (nX e f g h a b - a) (nY e f g h a b - b) := rfl
  have e1 : (tw1 a b a b e f g h).t = sq2 (nX e f g h a b - a) (nY e f g h a b - b) := rfl
  rw [e0, e1, e2, e3]
  omega
end Go.Proofs.Ytlcenopebgkjgaa
