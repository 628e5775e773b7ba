import Derived.Test.YtlabeelbbkbkaaaJ02RootArith
import Derived.Test.YtlabeelbbkbkaaaJ01FxRef
import Derived.Test.YtlabeelbbkbkaaaJ00DivArith
import Derived.Deep.DeepCutAuto
import Derived.Deep.QuietTactic
import Derived.BigQuiet

/-! J04PointRef: PointRef, PointRef2, SegRef, ConMath, JacMath, CorMath. -/

section
/-
  Package point: its slow reference.
-/
namespace Go.Proofs.Ytlabeelbbkbkaaa
open Go.RowKit Go.Lib

abbrev Cin (n : Int) : Prop := -1082130432 ≤ n ∧ n ≤ 1082130432
abbrev Din (n : Int) : Prop := -16777216 ≤ n ∧ n ≤ 16777216
/-- A segment and a point in range. -/
structure Rg (px py qx qy cx cy : Int) : Prop where
  hpx : Cin px
  hpy : Cin py
  hqx : Cin qx
  hqy : Cin qy
  hcx : Cin cx
  hcy : Cin cy
  hdx : Din (qx - px)
  hdy : Din (qy - py)
theorem st_box {px qx dx n d : Int} (h0 : 0 ≤ n) (h1 : n ≤ d) (hx : qx - px = dx) : min px qx ≤ px + stP dx n d ∧ px + stP dx n d ≤ max px qx := by
  have := stP_in (dx := dx) h0 h1
  omega
end Go.Proofs.Ytlabeelbbkbkaaa
end

section
/-
  Package point: the reference's DistSq, In, Right; all its results of a segment and a point.
-/
namespace Go.Proofs.Ytlabeelbbkbkaaa
open Go.RowKit Go.Lib

/-- The results for a segment and a point. -/
structure Pt (px py qx qy cx cy dx dy ux uy d n x y t : Int) : Prop where
  hx : qx - px = dx
  hy : qy - py = dy
  hu : cx - px = ux
  hv : cy - py = uy
  hd : sqP dx dy = d
  hn : paP ux uy dx dy = n
  hX : px + stP dx n d = x
  hY : py + stP dy n d = y
  ht : lsq (x - cx) (y - cy) = t
theorem Pt.par {px py qx qy cx cy dx dy ux uy d n x y t : Int} (P : Pt px py qx qy cx cy dx dy ux uy d n x y t) : 0 ≤ n ∧ n ≤ d := by
  have := paP_in ux uy dx dy
  rw [P.hn, P.hd] at this
  exact this
theorem Pt.box {px py qx qy cx cy dx dy ux uy d n x y t : Int} (P : Pt px py qx qy cx cy dx dy ux uy d n x y t) : (min px qx ≤ x ∧ x ≤ max px qx) ∧ (min py qy ≤ y ∧ y ≤ max py qy) := by
  have h := P.par
  have h1 := st_box h.1 h.2 P.hx
  have h2 := st_box h.1 h.2 P.hy
  rw [P.hX] at h1
  rw [P.hY] at h2
  exact ⟨h1, h2⟩
theorem Pt.ind {px py qx qy cx cy dx dy ux uy d n x y t : Int} (P : Pt px py qx qy cx cy dx dy ux uy d n x y t) (H : Rg px py qx qy cx cy) : InD (x - cx) ∧ InD (y - cy) := by
  obtain ⟨h1, h2⟩ := P.box
  obtain ⟨a1, a2, a3, a4, a5, a6, _, _⟩ := H
  unfold InD
  omega
/-- A point in range. -/
def inB (x y : Int) : Bool := decide (Cin x ∧ Cin y)
/-- A segment and a point in range. -/
def rgB (px py qx qy cx cy : Int) : Bool := inB px py && inB qx qy && inB cx cy && decide (Din (qx - px) ∧ Din (qy - py))
theorem rgB_iff {px py qx qy cx cy : Int} : rgB px py qx qy cx cy = true ↔ Rg px py qx qy cx cy := by
  unfold rgB inB
  simp only [Bool.and_eq_true, decide_eq_true_iff]
  constructor
  · rintro ⟨⟨⟨⟨h1, h2⟩, h3, h4⟩, h5, h6⟩, h7, h8⟩
    exact ⟨h1, h2, h3, h4, h5, h6, h7, h8⟩
  · rintro ⟨h1, h2, h3, h4, h5, h6, h7, h8⟩
    exact ⟨⟨⟨⟨h1, h2⟩, h3, h4⟩, h5, h6⟩, h7, h8⟩
end Go.Proofs.Ytlabeelbbkbkaaa
end

section
/-
  Package segment: its slow reference.
-/
namespace Go.Proofs.Ytlabeelbbkbkaaa
open Go.RowKit Go.Lib

/-- Two points in range, and the square of their distance. -/
structure Good (x : Tw) : Prop where
  a : Cin x.a
  b : Cin x.b
  c : Cin x.c
  d : Cin x.d
  t : x.t = sq2 (x.c - x.a) (x.d - x.b)
theorem good_pk {x y : Tw} (hx : Good x) (hy : Good y) : Good (pk x y) := by
  rcases pk_or x y with q | q <;> rw [q] <;> assumption
theorem good_mk {a b c d : Int} (h1 : Cin a) (h2 : Cin b) (h3 : Cin c) (h4 : Cin d) : Good (mkT a b c d) := ⟨h1, h2, h3, h4, rfl⟩
/-- Two segments in range. -/
def sgB (px py qx qy mx my nx ny : Int) : Bool := rgB px py qx qy mx my && rgB mx my nx ny px py
theorem sg_of {px py qx qy mx my nx ny : Int} (h : sgB px py qx qy mx my nx ny = true) : Rg px py qx qy mx my ∧ Rg mx my nx ny px py := by
  unfold sgB at h
  rw [Bool.and_eq_true] at h
  exact ⟨rgB_iff.1 h.1, rgB_iff.1 h.2⟩
theorem nX_cin {px py qx qy cx cy : Int} (H : Rg px py qx qy cx cy) : Cin (nX px py qx qy cx cy) ∧ Cin (nY px py qx qy cx cy) := by
  have P : Pt px py qx qy cx cy (qx - px) (qy - py) (cx - px) (cy - py) _ _ (nX px py qx qy cx cy) (nY px py qx qy cx cy) _ := ⟨rfl, rfl, rfl, rfl, rfl, rfl, rfl, rfl, rfl⟩
  obtain ⟨h1, h2⟩ := P.box
  obtain ⟨a1, a2, a3, a4, _, _, _, _⟩ := H
  unfold Cin at *
  omega
/-- The four ranges. -/
theorem sg_rg {px py qx qy mx my nx ny : Int} (h : sgB px py qx qy mx my nx ny = true) : Rg mx my nx ny px py ∧ Rg mx my nx ny qx qy ∧ Rg px py qx qy mx my ∧ Rg px py qx qy nx ny := by
  obtain ⟨⟨h1, h2, h3, h4, h5, h6, h7, h8⟩, h9, h10, h11, h12, _, _, h13, h14⟩ := sg_of h
  exact ⟨⟨h9, h10, h11, h12, h1, h2, h13, h14⟩, ⟨h9, h10, h11, h12, h3, h4, h13, h14⟩, ⟨h1, h2, h3, h4, h5, h6, h7, h8⟩, ⟨h1, h2, h3, h4, h11, h12, h7, h8⟩⟩
theorem sg_good {px py qx qy mx my nx ny : Int} (h : sgB px py qx qy mx my nx ny = true) : Good (tw0 px py qx qy mx my nx ny) ∧ Good (tw1 px py qx qy mx my nx ny) ∧ Good (tw2 px py qx qy mx my nx ny) ∧ Good (tw3 px py qx qy mx my nx ny) := by
  obtain ⟨h0, h1, h2, h3⟩ := sg_rg h
  exact ⟨good_mk h0.hcx h0.hcy (nX_cin h0).1 (nX_cin h0).2, good_mk h1.hcx h1.hcy (nX_cin h1).1 (nX_cin h1).2, good_mk (nX_cin h2).1 (nX_cin h2).2 h2.hcx h2.hcy, good_mk (nX_cin h3).1 (nX_cin h3).2 h3.hcx h3.hcy⟩
theorem sg_chs {px py qx qy mx my nx ny : Int} (h : sgB px py qx qy mx my nx ny = true) : Good (chs px py qx qy mx my nx ny) := by
  obtain ⟨h0, h1, h2, h3⟩ := sg_good h
  exact good_pk (good_pk (good_pk h0 h1) h2) h3
/-- Two points in a block of the call's own. -/
structure Bc (w : World) (b : Nat) (x : Tw) : Prop where
  c0 : w.cell? ⟨b, 0, none⟩ = some (.int .i32 x.a)
  c1 : w.cell? ⟨b, 1, none⟩ = some (.int .i32 x.b)
  c2 : w.cell? ⟨b, 2, none⟩ = some (.int .i32 x.c)
  c3 : w.cell? ⟨b, 3, none⟩ = some (.int .i32 x.d)
  f : ∀ j, w.frozen? ⟨b, j, none⟩ = false
theorem Bc.kep {w w' : World} {b : Nat} {x : Tw} (h : Bc w b x) (g : Kep w.heap.size w w') : Bc w' b x := ⟨g.all h.c0, g.all h.c1, g.all h.c2, g.all h.c3, fun j => (g.frozen (p := ⟨b, j, none⟩) (World.block_lt_of_cell? w ⟨b, 0, none⟩ h.c0)).trans (h.f j)⟩
theorem Bc.set {w : World} {b : Nat} {x : Tw} (h : Bc w b x) (y : Tw) : Bc ((((w.setCell ⟨b, 0, none⟩ (.int .i32 y.a)).setCell ⟨b, 1, none⟩ (.int .i32 y.b)).setCell ⟨b, 2, none⟩ (.int .i32 y.c)).setCell ⟨b, 3, none⟩ (.int .i32 y.d)) b y := by
  refine ⟨?_, ?_, ?_, ?_, fun j => by rw [World.frozen?_setCell, World.frozen?_setCell, World.frozen?_setCell, World.frozen?_setCell]; exact h.f j⟩
  · exact (World.cell?_setCell_other _ _ _ _ (by simp)).trans ((World.cell?_setCell_other _ _ _ _ (by simp)).trans ((World.cell?_setCell_other _ _ _ _ (by simp)).trans (World.cell?_setCell_same _ _ _ h.c0)))
  · exact (World.cell?_setCell_other _ _ _ _ (by simp)).trans ((World.cell?_setCell_other _ _ _ _ (by simp)).trans (World.cell?_setCell_same _ _ _ ((World.cell?_setCell_other _ _ _ _ (by simp)).trans h.c1)))
  · exact (World.cell?_setCell_other _ _ _ _ (by simp)).trans (World.cell?_setCell_same _ _ _ ((World.cell?_setCell_other _ _ _ _ (by simp)).trans ((World.cell?_setCell_other _ _ _ _ (by simp)).trans h.c2)))
  · exact World.cell?_setCell_same _ _ _ ((World.cell?_setCell_other _ _ _ _ (by simp)).trans ((World.cell?_setCell_other _ _ _ _ (by simp)).trans ((World.cell?_setCell_other _ _ _ _ (by simp)).trans h.c3)))
end Go.Proofs.Ytlabeelbbkbkaaa
end

section
/-
  Package contact: the arithmetic of contacts (no program).
-/
namespace Go.Proofs.Ytlabeelbbkbkaaa
open Go.RowKit Go.Lib

/-- A valid body. -/
def okC (x : Bd) : Prop := chk x.r x.ax x.ay x.m x.o x.px x.py x.vx x.vy = 0
/-- The chosen points of two bodies' cores. -/
def cc (x y : Bd) : Tw := chs (x.px - x.ax) (x.py - x.ay) (x.px + x.ax) (x.py + x.ay) (y.px - y.ax) (y.py - y.ay) (y.px + y.ax) (y.py + y.ay)
def cdx (x y : Bd) : Int := (cc x y).c - (cc x y).a
def cdy (x y : Bd) : Int := (cc x y).d - (cc x y).b
def cln (x y : Bd) : Int := rt (cc x y).t
def csm (x y : Bd) : Int := x.r + y.r
/-- Two bodies touch, the one with the lesser key first. -/
def tchB (x y : Bd) : Bool := decide ((cc x y).t < csm x y * csm x y)
/-- A contact: its five numbers. -/
structure Ct where
  lo : Int
  hi : Int
  nx : Int
  ny : Int
  dp : Int
def conC (x y : Bd) : Ct := ⟨x.k, y.k, ux (cdx x y) (cln x y), uy (cdy x y) (cln x y), csm x y - cln x y⟩
def conV (x y : Bd) : Ct := if tchB x y = true then conC x y else ⟨0, 0, 0, 0, 0⟩
def gapC (x y : Bd) : Int := cln x y - csm x y
/-- Of two bodies the one with the lesser key, and the other one. -/
def lowB (x y : Bd) : Bd := if y.k < x.k then y else x
def higB (x y : Bd) : Bd := if y.k < x.k then x else y
theorem low_comm {x y : Bd} (h : x.k ≠ y.k) : lowB x y = lowB y x ∧ higB x y = higB y x := by
  unfold lowB higB
  by_cases c : y.k < x.k
  · rw [if_pos c, if_pos c, if_neg (by omega), if_neg (by omega)]; exact ⟨rfl, rfl⟩
  · rw [if_neg c, if_neg c, if_pos (by omega), if_pos (by omega)]; exact ⟨rfl, rfl⟩
theorem low_ok {x y : Bd} (hx : okC x) (hy : okC y) : okC (lowB x y) ∧ okC (higB x y) := by
  unfold lowB higB
  split
  · exact ⟨hy, hx⟩
  · exact ⟨hx, hy⟩
theorem low_lt {x y : Bd} (h : x.k ≠ y.k) : (lowB x y).k < (higB x y).k := by
  unfold lowB higB
  split <;> omega
theorem low_csm (x y : Bd) : csm (lowB x y) (higB x y) = csm x y := by
  unfold lowB higB csm
  split <;> omega
theorem okC_lim {x : Bd} (h : okC x) : (4096 ≤ x.r ∧ x.r ≤ 4194304) ∧ ((-4194304 ≤ x.ax ∧ x.ax ≤ 4194304) ∧ (-4194304 ≤ x.ay ∧ x.ay ≤ 4194304)) ∧ ((-1073741824 ≤ x.px ∧ x.px ≤ 1073741824) ∧ (-1073741824 ≤ x.py ∧ x.py ≤ 1073741824)) := chk_lim h
theorem cc_sg {x y : Bd} (hx : okC x) (hy : okC y) : sgB (x.px - x.ax) (x.py - x.ay) (x.px + x.ax) (x.py + x.ay) (y.px - y.ax) (y.py - y.ay) (y.px + y.ax) (y.py + y.ay) = true := by
  have h1 := okC_lim hx
  have h2 := okC_lim hy
  unfold sgB
  rw [Bool.and_eq_true]
  refine ⟨rgB_iff.2 ⟨?_, ?_, ?_, ?_, ?_, ?_, ?_, ?_⟩, rgB_iff.2 ⟨?_, ?_, ?_, ?_, ?_, ?_, ?_, ?_⟩⟩ <;> first | (unfold Cin; omega) | (unfold Din; omega)
theorem cc_good {x y : Bd} (hx : okC x) (hy : okC y) : Good (cc x y) := sg_chs (cc_sg hx hy)
theorem cc_t {x y : Bd} (hx : okC x) (hy : okC y) : (cc x y).t = lsq (cdx x y) (cdy x y) := (cc_good hx hy).t
theorem cc_ind {x y : Bd} (hx : okC x) (hy : okC y) : InD (cdx x y) ∧ InD (cdy x y) := by
  have g := cc_good hx hy
  have h1 := g.a
  have h2 := g.b
  have h3 := g.c
  have h4 := g.d
  unfold Cin at *
  unfold InD cdx cdy
  omega
theorem cln_is {x y : Bd} (hx : okC x) (hy : okC y) : IsRoot (cln x y) (lsq (cdx x y) (cdy x y)) := by
  have e := cc_t hx hy
  unfold cln
  rw [e]
  exact rt_is (sqP_nn _ _)
theorem cln_bd {x y : Bd} (hx : okC x) (hy : okC y) : 0 ≤ cln x y ∧ cln x y ≤ 4294967295 := by
  have h := cln_is hx hy
  have i := cc_ind hx hy
  have l := (lsq_in i.1 i.2).2
  exact ⟨h.1, h.le_max (by omega)⟩
theorem csm_bd {x y : Bd} (hx : okC x) (hy : okC y) : 8192 ≤ csm x y ∧ csm x y ≤ 8388608 := by
  have h1 := okC_lim hx
  have h2 := okC_lim hy
  unfold csm
  omega
/-- They touch exactly if the length is less than the sum of the radii. -/
theorem tch_iff {x y : Bd} (hx : okC x) (hy : okC y) : tchB x y = true ↔ cln x y < csm x y := by
  have h := cln_is hx hy
  have e := cc_t hx hy
  have hs := csm_bd hx hy
  unfold tchB
  rw [decide_eq_true_iff, e]
  have k := h.iff (t := csm x y) (by omega)
  constructor
  · intro c
    apply Int.not_le.1
    intro q
    have := k.2 q
    omega
  · intro c
    apply Int.not_le.1
    intro q
    have := k.1 q
    omega
theorem nX_box (p q r s c d : Int) : (min p r ≤ nX p q r s c d ∧ nX p q r s c d ≤ max p r) ∧ (min q s ≤ nY p q r s c d ∧ nY p q r s c d ≤ max q s) := by
  have h := paP_in (c - p) (d - q) (r - p) (s - q)
  exact ⟨st_box h.1 h.2 rfl, st_box h.1 h.2 rfl⟩
/-- The chosen points lie in the boxes of the segments. -/
theorem chs_box (a b c d e f g h : Int) : ((min a c ≤ (chs a b c d e f g h).a ∧ (chs a b c d e f g h).a ≤ max a c) ∧ (min b d ≤ (chs a b c d e f g h).b ∧ (chs a b c d e f g h).b ≤ max b d)) ∧ ((min e g ≤ (chs a b c d e f g h).c ∧ (chs a b c d e f g h).c ≤ max e g) ∧ (min f h ≤ (chs a b c d e f g h).d ∧ (chs a b c d e f g h).d ≤ max f h)) := by
  rcases chs_or a b c d e f g h with q | q | q | q <;> rw [q]
  · have k := nX_box e f g h a b
    exact ⟨⟨⟨Int.min_le_left _ _, Int.le_max_left _ _⟩, ⟨Int.min_le_left _ _, Int.le_max_left _ _⟩⟩, k⟩
  · have k := nX_box e f g h c d
    exact ⟨⟨⟨Int.min_le_right _ _, Int.le_max_right _ _⟩, ⟨Int.min_le_right _ _, Int.le_max_right _ _⟩⟩, k⟩
  · have k := nX_box a b c d e f
    exact ⟨k, ⟨⟨Int.min_le_left _ _, Int.le_max_left _ _⟩, ⟨Int.min_le_left _ _, Int.le_max_left _ _⟩⟩⟩
  · have k := nX_box a b c d g h
    exact ⟨k, ⟨⟨Int.min_le_right _ _, Int.le_max_right _ _⟩, ⟨Int.min_le_right _ _, Int.le_max_right _ _⟩⟩⟩
def exC (x : Bd) : Int := max x.ax (-x.ax) + x.r
def eyC (x : Bd) : Int := max x.ay (-x.ay) + x.r
/-- Bodies that touch have boxes that overlap. -/
theorem tch_box {x y : Bd} (hx : okC x) (hy : okC y) (h : tchB x y = true) : (x.px - exC x ≤ y.px + exC y ∧ y.px - exC y ≤ x.px + exC x) ∧ (x.py - eyC x ≤ y.py + eyC y ∧ y.py - eyC y ≤ x.py + eyC x) := by
  have c := (tch_iff hx hy).1 h
  have g := root_ge (cln_is hx hy)
  have b := chs_box (x.px - x.ax) (x.py - x.ay) (x.px + x.ax) (x.py + x.ay) (y.px - y.ax) (y.py - y.ay) (y.px + y.ax) (y.py + y.ay)
  obtain ⟨z, hz⟩ : ∃ z, z = cc x y := ⟨_, rfl⟩
  have hz2 : z = chs (x.px - x.ax) (x.py - x.ay) (x.px + x.ax) (x.py + x.ay) (y.px - y.ax) (y.py - y.ay) (y.px + y.ax) (y.py + y.ay) := hz
  rw [← hz2] at b
  unfold cdx cdy at g
  rw [← hz] at g
  unfold csm at c
  unfold exC eyC
  omega
/-- A body moved. -/
theorem cc_mv {x y x' y' : Bd} {v u : Int} (h1 : x'.px = x.px + v ∧ x'.py = x.py + u ∧ x'.ax = x.ax ∧ x'.ay = x.ay) (h2 : y'.px = y.px + v ∧ y'.py = y.py + u ∧ y'.ax = y.ax ∧ y'.ay = y.ay) : cc x' y' = mvT v u (cc x y) := by
  obtain ⟨a1, a2, a3, a4⟩ := h1
  obtain ⟨b1, b2, b3, b4⟩ := h2
  unfold cc
  rw [a1, a2, a3, a4, b1, b2, b3, b4]
  have e1 : x.px + v - x.ax = x.px - x.ax + v := by omega
  have e2 : x.py + u - x.ay = x.py - x.ay + u := by omega
  have e3 : x.px + v + x.ax = x.px + x.ax + v := by omega
  have e4 : x.py + u + x.ay = x.py + x.ay + u := by omega
  have e5 : y.px + v - y.ax = y.px - y.ax + v := by omega
  have e6 : y.py + u - y.ay = y.py - y.ay + u := by omega
  have e7 : y.px + v + y.ax = y.px + y.ax + v := by omega
  have e8 : y.py + u + y.ay = y.py + y.ay + u := by omega
  rw [e1, e2, e3, e4, e5, e6, e7, e8]
  exact chs_mv _ _ _ _ _ _ _ _ _ _
theorem con_mv {x y x' y' : Bd} {v u : Int} (h1 : x'.px = x.px + v ∧ x'.py = x.py + u ∧ x'.ax = x.ax ∧ x'.ay = x.ay) (h2 : y'.px = y.px + v ∧ y'.py = y.py + u ∧ y'.ax = y.ax ∧ y'.ay = y.ay) (k1 : x'.k = x.k) (k2 : y'.k = y.k) (r1 : x'.r = x.r) (r2 : y'.r = y.r) : tchB x' y' = tchB x y ∧ conV x' y' = conV x y ∧ gapC x' y' = gapC x y := by
  have e := cc_mv h1 h2
  have e1 : cdx x' y' = cdx x y := by
    unfold cdx
    rw [e]
    show (cc x y).c + v - ((cc x y).a + v) = _
    omega
  have e2 : cdy x' y' = cdy x y := by
    unfold cdy
    rw [e]
    show (cc x y).d + u - ((cc x y).b + u) = _
    omega
  have e3 : cln x' y' = cln x y := by unfold cln; rw [e]; rfl
  have e4 : csm x' y' = csm x y := by unfold csm; rw [r1, r2]
  have e5 : tchB x' y' = tchB x y := by unfold tchB; rw [e, e4]; rfl
  refine ⟨e5, ?_, ?_⟩
  · unfold conV conC
    rw [e5, e1, e2, e3, e4, k1, k2]
  · unfold gapC
    rw [e3, e4]
/-- Circles: the chosen points are the positions. -/
theorem cc_cir {x y : Bd} (h1 : x.ax = 0 ∧ x.ay = 0) (h2 : y.ax = 0 ∧ y.ay = 0) : cdx x y = y.px - x.px ∧ cdy x y = y.py - x.py := by
  have e := chs_pts x.px x.py y.px y.py
  have q : cc x y = chs x.px x.py x.px x.py y.px y.py y.px y.py := by
    unfold cc
    rw [h1.1, h1.2, h2.1, h2.2]
    simp only [Int.sub_zero, Int.add_zero]
  unfold cdx cdy
  rw [q, e.1, e.2.1, e.2.2.1, e.2.2.2]
  exact ⟨rfl, rfl⟩
theorem un_neg {d n : Int} (h : 0 < n) : -1 ≤ un d n + un (-d) n ∧ un d n + un (-d) n ≤ 0 := by
  unfold un
  rw [Int.neg_mul]
  have h1 := Int.emod_add_mul_ediv (d * 65536) n
  have h2 := Int.emod_add_mul_ediv (-(d * 65536)) n
  have h3 := Int.emod_nonneg (d * 65536) (show n ≠ 0 by omega)
  have h4 := Int.emod_lt_of_pos (d * 65536) h
  have h5 := Int.emod_nonneg (-(d * 65536)) (show n ≠ 0 by omega)
  have h6 := Int.emod_lt_of_pos (-(d * 65536)) h
  generalize d * 65536 / n = a at *
  generalize -(d * 65536) / n = b at *
  have e : n * (a + b) = n * a + n * b := Int.mul_add _ _ _
  have k1 : n * (a + b) ≤ 0 := by omega
  have k2 : -(2 * n) < n * (a + b) := by omega
  constructor
  · apply Int.not_lt.1
    intro q
    have := Int.mul_le_mul_of_nonneg_left (show a + b ≤ -2 by omega) (show 0 ≤ n by omega)
    omega
  · apply Int.not_lt.1
    intro q
    have := Int.mul_le_mul_of_nonneg_left (show 1 ≤ a + b by omega) (show 0 ≤ n by omega)
    omega
end Go.Proofs.Ytlabeelbbkbkaaa
end

section
/-
  Package jacobi: rounds over lists of bodies and of contacts (no program).
-/
namespace Go.Proofs.Ytlabeelbbkbkaaa
open Go.RowKit Go.Lib

/-- Sums of integers. -/
def isum : List Int → Int
  | [] => 0
  | a :: l => a + isum l
theorem isum_app : ∀ (a b : List Int), isum (a ++ b) = isum a + isum b
  | [], b => by simp [isum]
  | x :: a, b => by
    show x + isum (a ++ b) = x + isum a + isum b
    rw [isum_app a b]
    omega
theorem isum_rev : ∀ a : List Int, isum a.reverse = isum a
  | [] => rfl
  | x :: a => by
    rw [List.reverse_cons, isum_app, isum_rev a]
    show isum a + (x + 0) = x + isum a
    omega
theorem isum_bd {B : Int} (_hB : 0 ≤ B) : ∀ {l : List Int}, (∀ a ∈ l, -B ≤ a ∧ a ≤ B) → -((l.length : Int) * B) ≤ isum l ∧ isum l ≤ (l.length : Int) * B
  | [], _ => by simp [isum]
  | x :: l, h => by
    have h1 := h x (by simp)
    have h2 := isum_bd _hB (l := l) (fun a ha => h a (by simp [ha]))
    have e : ((x :: l).length : Int) * B = (l.length : Int) * B + B := by
      rw [List.length_cons, Int.natCast_succ, Int.add_mul, Int.one_mul]
    rw [e]
    show -((l.length : Int) * B + B) ≤ x + isum l ∧ x + isum l ≤ (l.length : Int) * B + B
    omega
theorem isum_zero : ∀ {l : List Int}, (∀ a ∈ l, a = 0) → isum l = 0
  | [], _ => rfl
  | x :: l, h => by
    show x + isum l = 0
    rw [h x (by simp), isum_zero fun a ha => h a (by simp [ha])]
    rfl
/-- The body with a key. -/
def bdK (L : List Bd) (k : Int) : Bd := match look L k with
  | some x => x
  | none => ⟨0, 0, 0, 0, 0, 0, 0, 0, 0, 0⟩
theorem bdK_eq {L : List Bd} {k : Int} {x : Bd} (h : look L k = some x) : bdK L k = x := by unfold bdK; rw [h]
/-- The strength of a contact of bodies of L. -/
def stJ (L : List Bd) (c : Ct) : Int := stI c.nx c.ny (bdK L c.lo) (bdK L c.hi)
/-- What a contact adds to a component of a body's sum. -/
def conJ (f : Ct → Int) (L : List Bd) (x : Bd) (c : Ct) : Int := if c.lo = x.k then -(chI (stJ L c) x.m (f c)) else if c.hi = x.k then chI (stJ L c) x.m (f c) else 0
def sumJ (f : Ct → Int) (L : List Bd) (C : List Ct) (x : Bd) : Int := isum (C.map (conJ f L x))
theorem sumJ_app (f : Ct → Int) (L : List Bd) (C D : List Ct) (x : Bd) : sumJ f L (C ++ D) x = sumJ f L C x + sumJ f L D x := by
  unfold sumJ
  rw [List.map_append, isum_app]
theorem sumJ_rev (f : Ct → Int) (L : List Bd) (C : List Ct) (x : Bd) : sumJ f L C.reverse x = sumJ f L C x := by
  unfold sumJ
  rw [List.map_reverse, isum_rev]
theorem sumJ_at {f : Ct → Int} {L : List Bd} {C : List Ct} {x : Bd} {k : Nat} {c : Ct} (h : C[k]? = some c) : sumJ f L (C.take (k + 1)) x = sumJ f L (C.take k) x + conJ f L x c := by
  rw [List.take_add_one, h]
  show sumJ f L (C.take k ++ [c]) x = _
  rw [sumJ_app]
  show _ + (conJ f L x c + 0) = _
  omega
def limJ (n : Int) : Int := max (-16777216) (min n 16777216)
def rndX (L : List Bd) (C : List Ct) (x : Bd) : Int := limJ (x.vx + sumJ (·.nx) L C x)
def rndY (L : List Bd) (C : List Ct) (x : Bd) : Int := limJ (x.vy + sumJ (·.ny) L C x)
def velB (x : Bd) (a b : Int) : Bd := ⟨x.k, x.r, x.ax, x.ay, x.m, x.o, x.px, x.py, a, b⟩
def rndB (L : List Bd) (C : List Ct) (x : Bd) : Bd := velB x (rndX L C x) (rndY L C x)
/-- Whether a limit changes a velocity. -/
def clB (L : List Bd) (C : List Ct) (x : Bd) : Bool := decide (rndX L C x ≠ x.vx + sumJ (·.nx) L C x) || decide (rndY L C x ≠ x.vy + sumJ (·.ny) L C x)
def rndL (L : List Bd) (C : List Ct) : List Bd := L.map (rndB L C)
def clL (L : List Bd) (C : List Ct) : Bool := L.any (clB L C)
def slvN (C : List Ct) (L : List Bd) : Nat → List Bd × Bool
  | 0 => (L, false)
  | n + 1 => (rndL (slvN C L n).1 C, (slvN C L n).2 || clL (slvN C L n).1 C)
theorem limJ_bd (n : Int) : -16777216 ≤ limJ n ∧ limJ n ≤ 16777216 := by unfold limJ; omega
theorem limJ_id {n : Int} (h : -16777216 ≤ n ∧ n ≤ 16777216) : limJ n = n := by unfold limJ; omega
/-- What P17 asks of contacts. -/
structure RgC (L : List Bd) (c : Ct) : Prop where
  lt : c.lo < c.hi
  lo : (look L c.lo).isSome = true
  hi : (look L c.hi).isSome = true
  nx : Nr c.nx
  ny : Nr c.ny
theorem stJ_bd {L : List Bd} (hv : ∀ x ∈ L, Vb x) {c : Ct} (h : RgC L c) : 0 ≤ stJ L c ∧ stJ L c ≤ 8796093022208 := by
  obtain ⟨x, hx⟩ := Option.isSome_iff_exists.1 h.lo
  obtain ⟨y, hy⟩ := Option.isSome_iff_exists.1 h.hi
  unfold stJ
  rw [bdK_eq hx, bdK_eq hy]
  exact st_bd (hv _ (look_some hx).1) (hv _ (look_some hy).1) h.nx h.ny
theorem chI_bd {j m n : Int} (hj : 0 ≤ j ∧ j ≤ 8796093022208) (hm : 0 ≤ m ∧ m ≤ 1048576) (hn : Nr n) : -140737488355328 ≤ chI j m n ∧ chI j m n ≤ 140737488355328 := by
  have k := k_bd hj hm
  exact ch_bd ⟨k.2.2.1, k.2.2.2⟩ hn
theorem conJ_bd {f : Ct → Int} {L : List Bd} (hv : ∀ x ∈ L, Vb x) {x : Bd} (hx : x ∈ L) {c : Ct} (h : RgC L c) (hf : Nr (f c)) : -140737488355328 ≤ conJ f L x c ∧ conJ f L x c ≤ 140737488355328 := by
  have b := chI_bd (stJ_bd hv h) ⟨(hv x hx).m0, (hv x hx).m1⟩ hf
  unfold conJ
  repeat' split
  all_goals omega
theorem sumJ_bd {f : Ct → Int} {L : List Bd} (hv : ∀ x ∈ L, Vb x) {x : Bd} (hx : x ∈ L) {C : List Ct} (hC : ∀ c ∈ C, RgC L c) (hf : ∀ c ∈ C, Nr (f c)) (hl : C.length ≤ 100) : -14073748835532800 ≤ sumJ f L C x ∧ sumJ f L C x ≤ 14073748835532800 := by
  have b := isum_bd (B := 140737488355328) (by decide) (l := C.map (conJ f L x)) (fun a ha => by
    obtain ⟨c, hc, rfl⟩ := List.mem_map.1 ha
    exact conJ_bd hv hx (hC c hc) (hf c hc))
  rw [List.length_map] at b
  unfold sumJ
  omega
/-- A static body's sum is zero, and that of a body without a contact. -/
theorem chI_static (j n : Int) : chI j 0 n = 0 := by
  unfold chI
  rw [Int.mul_zero, Int.zero_ediv, Int.zero_mul, Int.zero_ediv]
theorem chI_zero (m n : Int) : chI 0 m n = 0 := by
  unfold chI
  rw [Int.zero_mul, Int.zero_ediv, Int.zero_mul, Int.zero_ediv]
theorem sumJ_static {f : Ct → Int} {L : List Bd} {C : List Ct} {x : Bd} (h : x.m = 0) : sumJ f L C x = 0 := by
  unfold sumJ
  refine isum_zero fun a ha => ?_
  obtain ⟨c, hc, rfl⟩ := List.mem_map.1 ha
  unfold conJ
  rw [h, chI_static]
  repeat' split
  all_goals rfl
theorem sumJ_unused {f : Ct → Int} {L : List Bd} {C : List Ct} {x : Bd} (h : ∀ c ∈ C, c.lo ≠ x.k ∧ c.hi ≠ x.k) : sumJ f L C x = 0 := by
  unfold sumJ
  refine isum_zero fun a ha => ?_
  obtain ⟨c, hc, rfl⟩ := List.mem_map.1 ha
  unfold conJ
  rw [if_neg (h c hc).1, if_neg (h c hc).2]
theorem sumJ_rest {f : Ct → Int} {L : List Bd} {C : List Ct} {x : Bd} (h : ∀ c ∈ C, stJ L c = 0) : sumJ f L C x = 0 := by
  unfold sumJ
  refine isum_zero fun a ha => ?_
  obtain ⟨c, hc, rfl⟩ := List.mem_map.1 ha
  unfold conJ
  rw [h c hc, chI_zero]
  repeat' split
  all_goals rfl
theorem rnd_id {L : List Bd} {C : List Ct} {x : Bd} (hv : Vb x) (h1 : sumJ (·.nx) L C x = 0) (h2 : sumJ (·.ny) L C x = 0) : rndB L C x = x ∧ clB L C x = false := by
  have a := hv.vx0; have b := hv.vx1; have c := hv.vy0; have d := hv.vy1
  have e1 : rndX L C x = x.vx := by unfold rndX; rw [h1, Int.add_zero, limJ_id ⟨a, b⟩]
  have e2 : rndY L C x = x.vy := by unfold rndY; rw [h2, Int.add_zero, limJ_id ⟨c, d⟩]
  constructor
  · unfold rndB velB
    rw [e1, e2]
  · unfold clB
    rw [e1, e2, h1, h2, Int.add_zero, Int.add_zero]
    simp
theorem rndL_id {L : List Bd} {C : List Ct} (hv : ∀ x ∈ L, Vb x) (h : ∀ x ∈ L, sumJ (·.nx) L C x = 0 ∧ sumJ (·.ny) L C x = 0) : rndL L C = L ∧ clL L C = false := by
  constructor
  · unfold rndL
    rw [List.map_congr_left (g := fun x => x) fun x hx => (rnd_id (hv x hx) (h x hx).1 (h x hx).2).1]
    simp
  · unfold clL
    rw [List.any_eq_false]
    intro x hx
    rw [(rnd_id (hv x hx) (h x hx).1 (h x hx).2).2]
    decide
theorem slv_id {L : List Bd} {C : List Ct} (hv : ∀ x ∈ L, Vb x) (h : ∀ x ∈ L, sumJ (·.nx) L C x = 0 ∧ sumJ (·.ny) L C x = 0) : ∀ n, slvN C L n = (L, false)
  | 0 => rfl
  | n + 1 => by
    unfold slvN
    rw [slv_id hv h n, (rndL_id hv h).1, (rndL_id hv h).2]
    rfl
/-- The same contacts in another order. -/
theorem rnd_same {L : List Bd} {C D : List Ct} (h : ∀ (f : Ct → Int) (x : Bd), sumJ f L C x = sumJ f L D x) : rndL L C = rndL L D ∧ clL L C = clL L D := by
  have e1 : rndX L C = rndX L D := by funext x; unfold rndX; rw [h]
  have e2 : rndY L C = rndY L D := by funext x; unfold rndY; rw [h]
  have e3 : rndB L C = rndB L D := by funext x; unfold rndB; rw [e1, e2]
  have e4 : clB L C = clB L D := by funext x; unfold clB; rw [e1, e2, h, h]
  unfold rndL clL
  rw [e3, e4]
  exact ⟨rfl, rfl⟩
theorem slv_same {C D : List Ct} (h : ∀ (f : Ct → Int) (L : List Bd) (x : Bd), sumJ f L C x = sumJ f L D x) (L : List Bd) : ∀ n, slvN C L n = slvN D L n
  | 0 => rfl
  | n + 1 => by
    unfold slvN
    rw [slv_same h L n, (rnd_same (h · _ ·)).1, (rnd_same (h · _ ·)).2]
/-- Turned about and round. -/
def rotC (C : List Ct) (k : Nat) : List Ct := (C.take (k + 1)).reverse ++ (C.drop (k + 1)).reverse
theorem rot_len (C : List Ct) (k : Nat) : (rotC C k).length = C.length := by
  unfold rotC
  rw [List.length_append, List.length_reverse, List.length_reverse, ← List.length_append, List.take_append_drop]
theorem rot_sum (f : Ct → Int) (L : List Bd) (C : List Ct) (k : Nat) (x : Bd) : sumJ f L C x = sumJ f L (rotC C k) x := by
  unfold rotC
  rw [sumJ_app, sumJ_rev, sumJ_rev, ← sumJ_app, List.take_append_drop]
theorem rot_at {C : List Ct} {k i : Nat} (hk : k < C.length) (hi : i < C.length) : (rotC C k)[i]? = C[(k + C.length - i) % C.length]? := by
  unfold rotC
  have hl : (C.take (k + 1)).reverse.length = k + 1 := by rw [List.length_reverse, List.length_take]; omega
  by_cases c : i < k + 1
  · rw [List.getElem?_append_left (by omega), List.getElem?_reverse (by rw [List.length_take]; omega), List.length_take, List.getElem?_take_of_lt (by omega)]
    have e : (k + C.length - i) % C.length = k - i := by
      rw [show k + C.length - i = (k - i) + C.length by omega, Nat.add_mod_right, Nat.mod_eq_of_lt (by omega)]
    rw [e]
    congr 1
    omega
  · rw [List.getElem?_append_right (by omega), hl, List.getElem?_reverse (by rw [List.length_drop]; omega), List.length_drop, List.getElem?_drop]
    have e : (k + C.length - i) % C.length = k + C.length - i := Nat.mod_eq_of_lt (by omega)
    rw [e]
    congr 1
    omega
theorem rot_mem {C : List Ct} {k : Nat} {c : Ct} : c ∈ rotC C k ↔ c ∈ C := by
  unfold rotC
  rw [List.mem_append, List.mem_reverse, List.mem_reverse, ← List.mem_append, List.take_append_drop]
/-- What solving keeps. -/
structure SmJ (x y : Bd) : Prop where
  k : y.k = x.k
  r : y.r = x.r
  ax : y.ax = x.ax
  ay : y.ay = x.ay
  m : y.m = x.m
  o : y.o = x.o
  px : y.px = x.px
  py : y.py = x.py
theorem slv_len (C : List Ct) (L : List Bd) : ∀ n, (slvN C L n).1.length = L.length
  | 0 => rfl
  | n + 1 => by
    show (rndL (slvN C L n).1 C).length = _
    unfold rndL
    rw [List.length_map, slv_len C L n]
theorem rndB_sm (L : List Bd) (C : List Ct) (x : Bd) : SmJ x (rndB L C x) := ⟨rfl, rfl, rfl, rfl, rfl, rfl, rfl, rfl⟩
theorem SmJ.vb {x y : Bd} (h : SmJ x y) (hx : Vb x) (h1 : -16777216 ≤ y.vx ∧ y.vx ≤ 16777216) (h2 : -16777216 ≤ y.vy ∧ y.vy ≤ 16777216) : Vb y := by
  have a := hx.m0; have b := hx.m1; have c := hx.o0; have d := hx.o1
  exact ⟨by rw [h.m]; exact a, by rw [h.m]; exact b, by rw [h.o]; exact c, by rw [h.o]; exact d, h1.1, h1.2, h2.1, h2.2⟩
theorem rndB_vb {L : List Bd} {C : List Ct} {x : Bd} (hx : Vb x) : Vb (rndB L C x) := (rndB_sm L C x).vb hx (limJ_bd _) (limJ_bd _)
theorem slv_at {C : List Ct} {L : List Bd} {i : Nat} {x : Bd} (hv : Vb x) (hx : L[i]? = some x) : ∀ n, ∃ y, (slvN C L n).1[i]? = some y ∧ SmJ x y ∧ Vb y ∧ (x.m = 0 ∨ (∀ c ∈ C, c.lo ≠ x.k ∧ c.hi ≠ x.k) → y.vx = x.vx ∧ y.vy = x.vy)
  | 0 => ⟨x, hx, ⟨rfl, rfl, rfl, rfl, rfl, rfl, rfl, rfl⟩, hv, fun _ => ⟨rfl, rfl⟩⟩
  | n + 1 => by
    obtain ⟨y, hy, sm, vb, hs⟩ := slv_at hv hx n
    refine ⟨rndB (slvN C L n).1 C y, ?_, ?_, rndB_vb vb, fun q => ?_⟩
    · show (rndL (slvN C L n).1 C)[i]? = _
      unfold rndL
      rw [List.getElem?_map, hy]
      rfl
    · have t := rndB_sm (slvN C L n).1 C y
      exact ⟨t.k.trans sm.k, t.r.trans sm.r, t.ax.trans sm.ax, t.ay.trans sm.ay, t.m.trans sm.m, t.o.trans sm.o, t.px.trans sm.px, t.py.trans sm.py⟩
    · have z : ∀ f : Ct → Int, sumJ f (slvN C L n).1 C y = 0 := fun f => by
        rcases q with q | q
        · exact sumJ_static (by rw [sm.m]; exact q)
        · exact sumJ_unused fun c hc => by rw [sm.k]; exact q c hc
      have e := (rnd_id vb (z _) (z _)).1
      rw [e]
      exact hs q
theorem slv_vb {C : List Ct} {L : List Bd} (hv : ∀ x ∈ L, Vb x) (n : Nat) : ∀ y ∈ (slvN C L n).1, Vb y := fun y hy => by
  obtain ⟨i, hi⟩ := List.getElem?_of_mem hy
  have hl : i < L.length := by rw [← slv_len C L n]; exact (List.getElem?_eq_some_iff.1 hi).1
  obtain ⟨z, hz, _, vb, _⟩ := slv_at (C := C) (hv _ (List.getElem_mem hl)) (List.getElem?_eq_getElem hl) n
  rw [hi] at hz
  injection hz with hz
  rw [hz]
  exact vb
/-- A map that keeps the keys keeps what is found. -/
theorem look_map {g : Bd → Bd} (hg : ∀ x, (g x).k = x.k) : ∀ (L : List Bd) (key : Int), look (L.map g) key = (look L key).map g
  | [], _ => rfl
  | x :: l, key => by
    show (if (g x).k = key then some (g x) else look (l.map g) key) = (if x.k = key then some x else look l key).map g
    rw [hg, look_map hg l key]
    split <;> rfl
theorem rgc_rnd {L : List Bd} {D : List Ct} {c : Ct} (h : RgC L c) : RgC (rndL L D) c := by
  obtain ⟨h1, h2, h3, h4, h5⟩ := h
  refine ⟨h1, ?_, ?_, h4, h5⟩
  · unfold rndL; rw [look_map (g := rndB L D) (fun _ => rfl), Option.isSome_map]; exact h2
  · unfold rndL; rw [look_map (g := rndB L D) (fun _ => rfl), Option.isSome_map]; exact h3
theorem rgc_slv {L : List Bd} {C : List Ct} {c : Ct} (h : RgC L c) : ∀ n, RgC (slvN C L n).1 c
  | 0 => h
  | n + 1 => rgc_rnd (rgc_slv h n)
/-- Bodies with one velocity do not approach each other. -/
theorem rest_st {L : List Bd} {c : Ct} {a b : Int} (h : RgC L c) (hs : ∀ x ∈ L, x.vx = a ∧ x.vy = b) : stJ L c = 0 := by
  obtain ⟨x, hx⟩ := Option.isSome_iff_exists.1 h.lo
  obtain ⟨y, hy⟩ := Option.isSome_iff_exists.1 h.hi
  have e1 := hs x (look_some hx).1
  have e2 := hs y (look_some hy).1
  unfold stJ
  rw [bdK_eq hx, bdK_eq hy]
  unfold stI apI spI
  rw [e1.1, e1.2, e2.1, e2.2, Int.sub_self, Int.sub_self, Int.zero_mul, Int.zero_mul]
  simp
theorem any_take {α : Type} {t : α → Bool} {L : List α} {k : Nat} {y : α} (h : L[k]? = some y) : (L.take (k + 1)).any t = ((L.take k).any t || t y) := by
  rw [List.take_add_one, h]
  simp
end Go.Proofs.Ytlabeelbbkbkaaa
end

section
/-
  Package correct: corrections, shares and shifts as numbers (no program).
-/
namespace Go.Proofs.Ytlabeelbbkbkaaa
open Go.RowKit Go.Lib

/-- The correction of a contact with a depth, of two bodies. -/
def amI (dp : Int) (x y : Bd) : Int := if dp ≤ 1024 ∨ x.m + y.m = 0 then 0 else (dp - 1024) * 26214 / 65536
/-- The share of a body with an inverse mass. -/
def shI (dp : Int) (x y : Bd) (m : Int) : Int := if amI dp x y = 0 then 0 else amI dp x y * m / (x.m + y.m)
/-- What a depth may be. -/
abbrev Dp (n : Int) : Prop := 1 ≤ n ∧ n ≤ 16777216
theorem am_bd {dp : Int} {x y : Bd} (h : Dp dp) : 0 ≤ amI dp x y ∧ amI dp x y < dp ∧ amI dp x y ≤ 6710476 := by
  unfold amI
  split <;> omega
theorem am_zero {dp : Int} {x y : Bd} (h : x.m + y.m = 0) : amI dp x y = 0 := by
  unfold amI
  rw [if_pos (.inr h)]
/-- The parts of a quotient. -/
theorem div_part {n a b : Int} (hn : 0 ≤ n) (ha : 0 ≤ a) (hb : 0 ≤ b) (hab : 0 < a + b) : 0 ≤ n * a / (a + b) ∧ n * a / (a + b) + n * b / (a + b) ≤ n ∧ n - 1 ≤ n * a / (a + b) + n * b / (a + b) := by
  have e : n * a + n * b = n * (a + b) := by rw [Int.mul_add]
  have p1 := Int.mul_nonneg hn ha
  have p2 := Int.mul_nonneg hn hb
  generalize n * a = p at *
  generalize n * b = q at *
  generalize a + b = d at *
  have h1 := Int.mul_ediv_add_emod p d
  have h2 := Int.mul_ediv_add_emod q d
  have r1 := Int.emod_nonneg p (show d ≠ 0 by omega)
  have r2 := Int.emod_nonneg q (show d ≠ 0 by omega)
  have s1 := Int.emod_lt_of_pos p hab
  have s2 := Int.emod_lt_of_pos q hab
  have q0 := Int.ediv_nonneg p1 (Int.le_of_lt hab)
  generalize p / d = u at *
  generalize q / d = v at *
  have e2 : d * (u + v) = d * u + d * v := by rw [Int.mul_add]
  have e3 : n * d = d * n := Int.mul_comm _ _
  refine ⟨q0, ?_, ?_⟩
  · have : d * (u + v) ≤ d * n := by omega
    exact Int.le_of_mul_le_mul_left this hab
  · have h3 : d * n < d * (u + v + 2) := by
      rw [Int.mul_add d (u + v) 2]
      omega
    have := Int.lt_of_mul_lt_mul_left h3 (Int.le_of_lt hab)
    omega
theorem sh_parts {dp : Int} {x y : Bd} (h : Dp dp) (hx : Vb x) (hy : Vb y) : 0 ≤ shI dp x y x.m ∧ 0 ≤ shI dp x y y.m ∧ shI dp x y x.m + shI dp x y y.m ≤ amI dp x y ∧ amI dp x y - 1 ≤ shI dp x y x.m + shI dp x y y.m ∨ amI dp x y = 0 ∧ shI dp x y x.m = 0 ∧ shI dp x y y.m = 0 := by
  by_cases c : amI dp x y = 0
  · right
    unfold shI
    rw [if_pos c, if_pos c]
    exact ⟨c, rfl, rfl⟩
  · left
    have hd : 0 < x.m + y.m := by
      have := hx.m0; have := hy.m0
      have : x.m + y.m ≠ 0 := fun e => c (am_zero e)
      omega
    have p := div_part (am_bd (x := x) (y := y) h).1 hx.m0 hy.m0 hd
    have p2 := div_part (am_bd (x := x) (y := y) h).1 hy.m0 hx.m0 (by omega)
    rw [Int.add_comm y.m x.m] at p2
    unfold shI
    rw [if_neg c, if_neg c]
    exact ⟨p.1, p2.1, p.2.1, p.2.2⟩
theorem sh_bd {dp : Int} {x y : Bd} (h : Dp dp) (hx : Vb x) (hy : Vb y) : (0 ≤ shI dp x y x.m ∧ shI dp x y x.m ≤ 6710476) ∧ (0 ≤ shI dp x y y.m ∧ shI dp x y y.m ≤ 6710476) := by
  have b := am_bd (x := x) (y := y) h
  rcases sh_parts h hx hy with ⟨p1, p2, p3, p4⟩ | ⟨p1, p2, p3⟩ <;> omega
theorem sh_static (dp : Int) (x y : Bd) : shI dp x y 0 = 0 := by
  unfold shI
  split
  · rfl
  · rw [Int.mul_zero, Int.zero_ediv]
theorem sh_mono {dp : Int} {x y : Bd} (h : Dp dp) (hx : Vb x) (hy : Vb y) {m n : Int} (hmn : m ≤ n) : shI dp x y m ≤ shI dp x y n := by
  unfold shI
  split
  · exact Int.le_refl _
  · rename_i c
    have hd : 0 < x.m + y.m := by
      have := hx.m0; have := hy.m0
      have : x.m + y.m ≠ 0 := fun e => c (am_zero e)
      omega
    exact Int.ediv_le_ediv hd (Int.mul_le_mul_of_nonneg_left hmn (am_bd h).1)
theorem am_mono {d e : Int} {x y : Bd} (h : d ≤ e) : amI d x y ≤ amI e x y := by
  unfold amI
  split <;> split <;> omega
theorem sh_depth {d e : Int} {x y : Bd} (hd : Dp d) (he : Dp e) (h : d ≤ e) (hx : Vb x) (hy : Vb y) {m : Int} (hm : 0 ≤ m) : shI d x y m ≤ shI e x y m := by
  have a := am_mono (x := x) (y := y) h
  have b1 := (am_bd (x := x) (y := y) hd).1
  have b2 := (am_bd (x := x) (y := y) he).1
  unfold shI
  have hs : 0 ≤ x.m + y.m := by have := hx.m0; have := hy.m0; omega
  split
  · split
    · exact Int.le_refl _
    · exact Int.ediv_nonneg (Int.mul_nonneg b2 hm) hs
  · rename_i c
    have hd : 0 < x.m + y.m := by
      have : x.m + y.m ≠ 0 := fun e => c (am_zero e)
      omega
    rw [if_neg (by omega)]
    exact Int.ediv_le_ediv hd (Int.mul_le_mul_of_nonneg_right a hm)
/-- What a contact adds to a component of a body's shift. -/
def conS (f : Ct → Int) (L : List Bd) (x : Bd) (c : Ct) : Int :=
  if c.lo = x.k then -(shI c.dp (bdK L c.lo) (bdK L c.hi) x.m * f c / 65536) else if c.hi = x.k then shI c.dp (bdK L c.lo) (bdK L c.hi) x.m * f c / 65536 else 0
def shfI (f : Ct → Int) (L : List Bd) (C : List Ct) (x : Bd) : Int := isum (C.map (conS f L x))
theorem shf_app (f : Ct → Int) (L : List Bd) (C D : List Ct) (x : Bd) : shfI f L (C ++ D) x = shfI f L C x + shfI f L D x := by
  unfold shfI
  rw [List.map_append, isum_app]
theorem shf_at {f : Ct → Int} {L : List Bd} {C : List Ct} {x : Bd} {k : Nat} {c : Ct} (h : C[k]? = some c) : shfI f L (C.take (k + 1)) x = shfI f L (C.take k) x + conS f L x c := by
  rw [List.take_add_one, h]
  show shfI f L (C.take k ++ [c]) x = _
  rw [shf_app]
  show _ + (conS f L x c + 0) = _
  omega
/-- A share times a component of a normal. -/
theorem shn_bd {s n : Int} (hs : 0 ≤ s ∧ s ≤ 6710476) (hn : Nr n) : (-439777755136 ≤ s * n ∧ s * n ≤ 439777755136) ∧ -6710476 ≤ s * n / 65536 ∧ s * n / 65536 ≤ 6710476 := by
  have b := mul_bd (a := s) (b := n) (A := 6710476) (B := 65536) ⟨by omega, hs.2⟩ ⟨hn.1, hn.2⟩
  have e : (6710476 : Int) * 65536 = 439777755136 := by decide
  rw [e] at b
  omega
/-- A contact as P18 asks. -/
structure RsC (L : List Bd) (c : Ct) : Prop extends RgC L c where
  dp : Dp c.dp
theorem conS_at {f : Ct → Int} {L : List Bd} {x a b : Bd} {c : Ct} (ha : look L c.lo = some a) (hb : look L c.hi = some b) :
    conS f L x c = if c.lo = x.k then -(shI c.dp a b x.m * f c / 65536) else if c.hi = x.k then shI c.dp a b x.m * f c / 65536 else 0 := by
  unfold conS
  rw [bdK_eq ha, bdK_eq hb]
/-- A body's share of a contact of its own. -/
theorem own_share {L : List Bd} (hA : ∀ x ∈ L, look L x.k = some x) (hv : ∀ x ∈ L, Vb x) {x : Bd} (hx : x ∈ L) {c : Ct} (h : RsC L c) (hk : c.lo = x.k ∨ c.hi = x.k) :
    0 ≤ shI c.dp (bdK L c.lo) (bdK L c.hi) x.m ∧ shI c.dp (bdK L c.lo) (bdK L c.hi) x.m ≤ 6710476 := by
  obtain ⟨a, ha⟩ := Option.isSome_iff_exists.1 h.lo
  obtain ⟨b, hb⟩ := Option.isSome_iff_exists.1 h.hi
  rw [bdK_eq ha, bdK_eq hb]
  have s := sh_bd h.dp (hv a (look_some ha).1) (hv b (look_some hb).1)
  have hl := hA x hx
  rcases hk with e | e
  · rw [e, hl] at ha
    injection ha with ha
    rw [ha]
    exact s.1
  · rw [e, hl] at hb
    injection hb with hb
    rw [hb]
    exact s.2
theorem conS_bd {f : Ct → Int} {L : List Bd} (hA : ∀ x ∈ L, look L x.k = some x) (hv : ∀ x ∈ L, Vb x) {x : Bd} (hx : x ∈ L) {c : Ct} (h : RsC L c) (hf : Nr (f c)) : -6710476 ≤ conS f L x c ∧ conS f L x c ≤ 6710476 := by
  unfold conS
  split
  · rename_i e
    have := (shn_bd (own_share hA hv hx h (.inl e)) hf).2
    omega
  · split
    · rename_i e
      have := (shn_bd (own_share hA hv hx h (.inr e)) hf).2
      omega
    · omega
theorem shf_bd {f : Ct → Int} {L : List Bd} (hA : ∀ x ∈ L, look L x.k = some x) (hv : ∀ x ∈ L, Vb x) {x : Bd} (hx : x ∈ L) {C : List Ct} (hC : ∀ c ∈ C, RsC L c) (hf : ∀ c ∈ C, Nr (f c)) (hl : C.length ≤ 100) : -671047600 ≤ shfI f L C x ∧ shfI f L C x ≤ 671047600 := by
  have b := isum_bd (B := 6710476) (by decide) (l := C.map (conS f L x)) (fun a ha => by
    obtain ⟨c, hc, rfl⟩ := List.mem_map.1 ha
    exact conS_bd hA hv hx (hC c hc) (hf c hc))
  rw [List.length_map] at b
  unfold shfI
  omega
theorem shf_static {f : Ct → Int} {L : List Bd} {C : List Ct} {x : Bd} (h : x.m = 0) : shfI f L C x = 0 := by
  unfold shfI
  refine isum_zero fun a ha => ?_
  obtain ⟨c, hc, rfl⟩ := List.mem_map.1 ha
  unfold conS
  rw [h, sh_static]
  repeat' split
  all_goals simp
/-- The contacts turned round. -/
theorem shf_turn (f : Ct → Int) (L : List Bd) (C : List Ct) (k : Nat) (x : Bd) : shfI f L (C.drop k ++ C.take k) x = shfI f L C x := by
  rw [shf_app, Int.add_comm, ← shf_app, List.take_append_drop]
theorem shf_cut (f : Ct → Int) (L : List Bd) (C : List Ct) (k : Nat) (x : Bd) : shfI f L C x = shfI f L (C.take k) x + shfI f L (C.drop k) x := by
  rw [← shf_app, List.take_append_drop]
/-- A shift: two numbers. -/
abbrev Sh := Int × Int
def shv (s : Sh) : List Value := [.int .i64 s.1, .int .i64 s.2]
theorem shv_len (s : Sh) : (shv s).length = 2 := rfl
theorem shv_one (s : Sh) : ∀ u ∈ shv s, u.oneCell' = true := by
  intro u hu
  simp only [shv, List.mem_cons, List.not_mem_nil, or_false] at hu
  rcases hu with rfl | rfl <;> rfl
def shfB (L : List Bd) (C : List Ct) (x : Bd) : Sh := (shfI (·.nx) L C x, shfI (·.ny) L C x)
def shfL (L : List Bd) (C : List Ct) : List Sh := L.map (shfB L C)
end Go.Proofs.Ytlabeelbbkbkaaa
end
