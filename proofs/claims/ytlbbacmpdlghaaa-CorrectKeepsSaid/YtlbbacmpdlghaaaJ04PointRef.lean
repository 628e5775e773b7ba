import Derived.Test.YtlbbacmpdlghaaaJ02RootArith
import Derived.Test.YtlbbacmpdlghaaaJ01FxRef
import Derived.Test.YtlbbacmpdlghaaaJ00Bits
import Derived.Deep.DeepCutAuto
import Derived.Deep.QuietTactic
import Derived.BigQuiet

/-! J04PointRef: PointRef, PointRef2, SegRef, ConMath. -/

section
/-
  Package point: its slow reference.
-/
namespace Go.Proofs.Ytlbbacmpdlghaaa
open Go.RowKit Go.Lib

abbrev Cin (n : Int) : Prop := -1082130432 ≤ n ∧ n ≤ 1082130432
abbrev Din (n : Int) : Prop := -16777216 ≤ n ∧ n ≤ 16777216
/-- A segment and a point in range. -/
structure Rg (px py qx qy cx cy : Int) : Prop where
  hpx : Cin px
  hpy : Cin py
  hqx : Cin qx
  hqy : Cin qy
  hcx : Cin cx
  hcy : Cin cy
  hdx : Din (qx - px)
  hdy : Din (qy - py)
theorem st_box {px qx dx n d : Int} (h0 : 0 ≤ n) (h1 : n ≤ d) (hx : qx - px = dx) : min px qx ≤ px + stP dx n d ∧ px + stP dx n d ≤ max px qx := by
  have := stP_in (dx := dx) h0 h1
  omega
end Go.Proofs.Ytlbbacmpdlghaaa
end

section
/-
  Package point: the reference's DistSq, In, Right; all its results of a segment and a point.
-/
namespace Go.Proofs.Ytlbbacmpdlghaaa
open Go.RowKit Go.Lib

/-- The results for a segment and a point. -/
structure Pt (px py qx qy cx cy dx dy ux uy d n x y t : Int) : Prop where
  hx : qx - px = dx
  hy : qy - py = dy
  hu : cx - px = ux
  hv : cy - py = uy
  hd : sqP dx dy = d
  hn : paP ux uy dx dy = n
  hX : px + stP dx n d = x
  hY : py + stP dy n d = y
  ht : lsq (x - cx) (y - cy) = t
theorem Pt.par {px py qx qy cx cy dx dy ux uy d n x y t : Int} (P : Pt px py qx qy cx cy dx dy ux uy d n x y t) : 0 ≤ n ∧ n ≤ d := by
  have := paP_in ux uy dx dy
  rw [P.hn, P.hd] at this
  exact this
theorem Pt.box {px py qx qy cx cy dx dy ux uy d n x y t : Int} (P : Pt px py qx qy cx cy dx dy ux uy d n x y t) : (min px qx ≤ x ∧ x ≤ max px qx) ∧ (min py qy ≤ y ∧ y ≤ max py qy) := by
  have h := P.par
  have h1 := st_box h.1 h.2 P.hx
  have h2 := st_box h.1 h.2 P.hy
  rw [P.hX] at h1
  rw [P.hY] at h2
  exact ⟨h1, h2⟩
theorem Pt.ind {px py qx qy cx cy dx dy ux uy d n x y t : Int} (P : Pt px py qx qy cx cy dx dy ux uy d n x y t) (H : Rg px py qx qy cx cy) : InD (x - cx) ∧ InD (y - cy) := by
  obtain ⟨h1, h2⟩ := P.box
  obtain ⟨a1, a2, a3, a4, a5, a6, _, _⟩ := H
  unfold InD
  omega
/-- A point in range. -/
def inB (x y : Int) : Bool := decide (Cin x ∧ Cin y)
/-- A segment and a point in range. -/
def rgB (px py qx qy cx cy : Int) : Bool := inB px py && inB qx qy && inB cx cy && decide (Din (qx - px) ∧ Din (qy - py))
theorem rgB_iff {px py qx qy cx cy : Int} : rgB px py qx qy cx cy = true ↔ Rg px py qx qy cx cy := by
  unfold rgB inB
  simp only [Bool.and_eq_true, decide_eq_true_iff]
  constructor
  · rintro ⟨⟨⟨⟨h1, h2⟩, h3, h4⟩, h5, h6⟩, h7, h8⟩
    exact ⟨h1, h2, h3, h4, h5, h6, h7, h8⟩
  · rintro ⟨h1, h2, h3, h4, h5, h6, h7, h8⟩
    exact ⟨⟨⟨⟨h1, h2⟩, h3, h4⟩, h5, h6⟩, h7, h8⟩
end Go.Proofs.Ytlbbacmpdlghaaa
end

section
/-
  Package segment: its slow reference.
-/
namespace Go.Proofs.Ytlbbacmpdlghaaa
open Go.RowKit Go.Lib

/-- Two points in range, and the square of their distance. -/
structure Good (x : Tw) : Prop where
  a : Cin x.a
  b : Cin x.b
  c : Cin x.c
  d : Cin x.d
  t : x.t = sq2 (x.c - x.a) (x.d - x.b)
theorem good_pk {x y : Tw} (hx : Good x) (hy : Good y) : Good (pk x y) := by
  rcases pk_or x y with q | q <;> rw [q] <;> assumption
theorem good_mk {a b c d : Int} (h1 : Cin a) (h2 : Cin b) (h3 : Cin c) (h4 : Cin d) : Good (mkT a b c d) := ⟨h1, h2, h3, h4, rfl⟩
/-- Two segments in range. -/
def sgB (px py qx qy mx my nx ny : Int) : Bool := rgB px py qx qy mx my && rgB mx my nx ny px py
theorem sg_of {px py qx qy mx my nx ny : Int} (h : sgB px py qx qy mx my nx ny = true) : Rg px py qx qy mx my ∧ Rg mx my nx ny px py := by
  unfold sgB at h
  rw [Bool.and_eq_true] at h
  exact ⟨rgB_iff.1 h.1, rgB_iff.1 h.2⟩
theorem nX_cin {px py qx qy cx cy : Int} (H : Rg px py qx qy cx cy) : Cin (nX px py qx qy cx cy) ∧ Cin (nY px py qx qy cx cy) := by
  have P : Pt px py qx qy cx cy (qx - px) (qy - py) (cx - px) (cy - py) _ _ (nX px py qx qy cx cy) (nY px py qx qy cx cy) _ := ⟨rfl, rfl, rfl, rfl, rfl, rfl, rfl, rfl, rfl⟩
  obtain ⟨h1, h2⟩ := P.box
  obtain ⟨a1, a2, a3, a4, _, _, _, _⟩ := H
  unfold Cin at *
  omega
/-- The four ranges. -/
theorem sg_rg {px py qx qy mx my nx ny : Int} (h : sgB px py qx qy mx my nx ny = true) : Rg mx my nx ny px py ∧ Rg mx my nx ny qx qy ∧ Rg px py qx qy mx my ∧ Rg px py qx qy nx ny := by
  obtain ⟨⟨h1, h2, h3, h4, h5, h6, h7, h8⟩, h9, h10, h11, h12, _, _, h13, h14⟩ := sg_of h
  exact ⟨⟨h9, h10, h11, h12, h1, h2, h13, h14⟩, ⟨h9, h10, h11, h12, h3, h4, h13, h14⟩, ⟨h1, h2, h3, h4, h5, h6, h7, h8⟩, ⟨h1, h2, h3, h4, h11, h12, h7, h8⟩⟩
theorem sg_good {px py qx qy mx my nx ny : Int} (h : sgB px py qx qy mx my nx ny = true) : Good (tw0 px py qx qy mx my nx ny) ∧ Good (tw1 px py qx qy mx my nx ny) ∧ Good (tw2 px py qx qy mx my nx ny) ∧ Good (tw3 px py qx qy mx my nx ny) := by
  obtain ⟨h0, h1, h2, h3⟩ := sg_rg h
  exact ⟨good_mk h0.hcx h0.hcy (nX_cin h0).1 (nX_cin h0).2, good_mk h1.hcx h1.hcy (nX_cin h1).1 (nX_cin h1).2, good_mk (nX_cin h2).1 (nX_cin h2).2 h2.hcx h2.hcy, good_mk (nX_cin h3).1 (nX_cin h3).2 h3.hcx h3.hcy⟩
theorem sg_chs {px py qx qy mx my nx ny : Int} (h : sgB px py qx qy mx my nx ny = true) : Good (chs px py qx qy mx my nx ny) := by
  obtain ⟨h0, h1, h2, h3⟩ := sg_good h
  exact good_pk (good_pk (good_pk h0 h1) h2) h3
/-- Two points in a block of the call's own. -/
structure Bc (w : World) (b : Nat) (x : Tw) : Prop where
  c0 : w.cell? ⟨b, 0, none⟩ = some (.int .i32 x.a)
  c1 : w.cell? ⟨b, 1, none⟩ = some (.int .i32 x.b)
  c2 : w.cell? ⟨b, 2, none⟩ = some (.int .i32 x.c)
  c3 : w.cell? ⟨b, 3, none⟩ = some (.int .i32 x.d)
  f : ∀ j, w.frozen? ⟨b, j, none⟩ = false
theorem Bc.kep {w w' : World} {b : Nat} {x : Tw} (h : Bc w b x) (g : Kep w.heap.size w w') : Bc w' b x := ⟨g.all h.c0, g.all h.c1, g.all h.c2, g.all h.c3, fun j => (g.frozen (p := ⟨b, j, none⟩) (World.block_lt_of_cell? w ⟨b, 0, none⟩ h.c0)).trans (h.f j)⟩
theorem Bc.set {w : World} {b : Nat} {x : Tw} (h : Bc w b x) (y : Tw) : Bc ((((w.setCell ⟨b, 0, none⟩ (.int .i32 y.a)).setCell ⟨b, 1, none⟩ (.int .i32 y.b)).setCell ⟨b, 2, none⟩ (.int .i32 y.c)).setCell ⟨b, 3, none⟩ (.int .i32 y.d)) b y := by
  refine ⟨?_, ?_, ?_, ?_, fun j => by rw [World.frozen?_setCell, World.frozen?_setCell, World.frozen?_setCell, World.frozen?_setCell]; exact h.f j⟩
  · exact (World.cell?_setCell_other _ _ _ _ (by simp)).trans ((World.cell?_setCell_other _ _ _ _ (by simp)).trans ((World.cell?_setCell_other _ _ _ _ (by simp)).trans (World.cell?_setCell_same _ _ _ h.c0)))
  · exact (World.cell?_setCell_other _ _ _ _ (by simp)).trans ((World.cell?_setCell_other _ _ _ _ (by simp)).trans (World.cell?_setCell_same _ _ _ ((World.cell?_setCell_other _ _ _ _ (by simp)).trans h.c1)))
  · exact (World.cell?_setCell_other _ _ _ _ (by simp)).trans (World.cell?_setCell_same _ _ _ ((World.cell?_setCell_other _ _ _ _ (by simp)).trans ((World.cell?_setCell_other _ _ _ _ (by simp)).trans h.c2)))
  · exact World.cell?_setCell_same _ _ _ ((World.cell?_setCell_other _ _ _ _ (by simp)).trans ((World.cell?_setCell_other _ _ _ _ (by simp)).trans ((World.cell?_setCell_other _ _ _ _ (by simp)).trans h.c3)))
end Go.Proofs.Ytlbbacmpdlghaaa
end

section
/-
  Package contact: the arithmetic of contacts (no program).
-/
namespace Go.Proofs.Ytlbbacmpdlghaaa
open Go.RowKit Go.Lib

/-- A valid body. -/
def okC (x : Bd) : Prop := chk x.r x.ax x.ay x.m x.o x.px x.py x.vx x.vy = 0
/-- The chosen points of two bodies' cores. -/
def cc (x y : Bd) : Tw := chs (x.px - x.ax) (x.py - x.ay) (x.px + x.ax) (x.py + x.ay) (y.px - y.ax) (y.py - y.ay) (y.px + y.ax) (y.py + y.ay)
def cdx (x y : Bd) : Int := (cc x y).c - (cc x y).a
def cdy (x y : Bd) : Int := (cc x y).d - (cc x y).b
def cln (x y : Bd) : Int := rt (cc x y).t
def csm (x y : Bd) : Int := x.r + y.r
/-- Two bodies touch, the one with the lesser key first. -/
def tchB (x y : Bd) : Bool := decide ((cc x y).t < csm x y * csm x y)
/-- A contact: its five numbers. -/
structure Ct where
  lo : Int
  hi : Int
  nx : Int
  ny : Int
  dp : Int
def conC (x y : Bd) : Ct := ⟨x.k, y.k, ux (cdx x y) (cln x y), uy (cdy x y) (cln x y), csm x y - cln x y⟩
def conV (x y : Bd) : Ct := if tchB x y = true then conC x y else ⟨0, 0, 0, 0, 0⟩
def gapC (x y : Bd) : Int := cln x y - csm x y
/-- Of two bodies the one with the lesser key, and the other one. -/
def lowB (x y : Bd) : Bd := if y.k < x.k then y else x
def higB (x y : Bd) : Bd := if y.k < x.k then x else y
theorem low_comm {x y : Bd} (h : x.k ≠ y.k) : lowB x y = lowB y x ∧ higB x y = higB y x := by
  unfold lowB higB
  by_cases c : y.k < x.k
  · rw [if_pos c, if_pos c, if_neg (by omega), if_neg (by omega)]; exact ⟨rfl, rfl⟩
  · rw [if_neg c, if_neg c, if_pos (by omega), if_pos (by omega)]; exact ⟨rfl, rfl⟩
theorem low_ok {x y : Bd} (hx : okC x) (hy : okC y) : okC (lowB x y) ∧ okC (higB x y) := by
  unfold lowB higB
  split
  · exact ⟨hy, hx⟩
  · exact ⟨hx, hy⟩
theorem low_lt {x y : Bd} (h : x.k ≠ y.k) : (lowB x y).k < (higB x y).k := by
  unfold lowB higB
  split <;> omega
theorem low_csm (x y : Bd) : csm (lowB x y) (higB x y) = csm x y := by
  unfold lowB higB csm
  split <;> omega
theorem okC_lim {x : Bd} (h : okC x) : (4096 ≤ x.r ∧ x.r ≤ 4194304) ∧ ((-4194304 ≤ x.ax ∧ x.ax ≤ 4194304) ∧ (-4194304 ≤ x.ay ∧ x.ay ≤ 4194304)) ∧ ((-1073741824 ≤ x.px ∧ x.px ≤ 1073741824) ∧ (-1073741824 ≤ x.py ∧ x.py ≤ 1073741824)) := chk_lim h
theorem cc_sg {x y : Bd} (hx : okC x) (hy : okC y) : sgB (x.px - x.ax) (x.py - x.ay) (x.px + x.ax) (x.py + x.ay) (y.px - y.ax) (y.py - y.ay) (y.px + y.ax) (y.py + y.ay) = true := by
  have h1 := okC_lim hx
  have h2 := okC_lim hy
  unfold sgB
  rw [Bool.and_eq_true]
  refine ⟨rgB_iff.2 ⟨?_, ?_, ?_, ?_, ?_, ?_, ?_, ?_⟩, rgB_iff.2 ⟨?_, ?_, ?_, ?_, ?_, ?_, ?_, ?_⟩⟩ <;> first | (unfold Cin; omega) | (unfold Din; omega)
theorem cc_good {x y : Bd} (hx : okC x) (hy : okC y) : Good (cc x y) := sg_chs (cc_sg hx hy)
theorem cc_t {x y : Bd} (hx : okC x) (hy : okC y) : (cc x y).t = lsq (cdx x y) (cdy x y) := (cc_good hx hy).t
theorem cc_ind {x y : Bd} (hx : okC x) (hy : okC y) : InD (cdx x y) ∧ InD (cdy x y) := by
  have g := cc_good hx hy
  have h1 := g.a
  have h2 := g.b
  have h3 := g.c
  have h4 := g.d
  unfold Cin at *
  unfold InD cdx cdy
  omega
theorem cln_is {x y : Bd} (hx : okC x) (hy : okC y) : IsRoot (cln x y) (lsq (cdx x y) (cdy x y)) := by
  have e := cc_t hx hy
  unfold cln
  rw [e]
  exact rt_is (sqP_nn _ _)
theorem cln_bd {x y : Bd} (hx : okC x) (hy : okC y) : 0 ≤ cln x y ∧ cln x y ≤ 4294967295 := by
  have h := cln_is hx hy
  have i := cc_ind hx hy
  have l := (lsq_in i.1 i.2).2
  exact ⟨h.1, h.le_max (by omega)⟩
theorem csm_bd {x y : Bd} (hx : okC x) (hy : okC y) : 8192 ≤ csm x y ∧ csm x y ≤ 8388608 := by
  have h1 := okC_lim hx
  have h2 := okC_lim hy
  unfold csm
  omega
/-- They touch exactly if the length is less than the sum of the radii. -/
theorem tch_iff {x y : Bd} (hx : okC x) (hy : okC y) : tchB x y = true ↔ cln x y < csm x y := by
  have h := cln_is hx hy
  have e := cc_t hx hy
  have hs := csm_bd hx hy
  unfold tchB
  rw [decide_eq_true_iff, e]
  have k := h.iff (t := csm x y) (by omega)
  constructor
  · intro c
    apply Int.not_le.1
    intro q
    have := k.2 q
    omega
  · intro c
    apply Int.not_le.1
    intro q
    have := k.1 q
    omega
theorem nX_box (p q r s c d : Int) : (min p r ≤ nX p q r s c d ∧ nX p q r s c d ≤ max p r) ∧ (min q s ≤ nY p q r s c d ∧ nY p q r s c d ≤ max q s) := by
  have h := paP_in (c - p) (d - q) (r - p) (s - q)
  exact ⟨st_box h.1 h.2 rfl, st_box h.1 h.2 rfl⟩
/-- The chosen points lie in the boxes of the segments. -/
theorem chs_box (a b c d e f g h : Int) : ((min a c ≤ (chs a b c d e f g h).a ∧ (chs a b c d e f g h).a ≤ max a c) ∧ (min b d ≤ (chs a b c d e f g h).b ∧ (chs a b c d e f g h).b ≤ max b d)) ∧ ((min e g ≤ (chs a b c d e f g h).c ∧ (chs a b c d e f g h).c ≤ max e g) ∧ (min f h ≤ (chs a b c d e f g h).d ∧ (chs a b c d e f g h).d ≤ max f h)) := by
  rcases chs_or a b c d e f g h with q | q | q | q <;> rw [q]
  · have k := nX_box e f g h a b
    exact ⟨⟨⟨Int.min_le_left _ _, Int.le_max_left _ _⟩, ⟨Int.min_le_left _ _, Int.le_max_left _ _⟩⟩, k⟩
  · have k := nX_box e f g h c d
    exact ⟨⟨⟨Int.min_le_right _ _, Int.le_max_right _ _⟩, ⟨Int.min_le_right _ _, Int.le_max_right _ _⟩⟩, k⟩
  · have k := nX_box a b c d e f
    exact ⟨k, ⟨⟨Int.min_le_left _ _, Int.le_max_left _ _⟩, ⟨Int.min_le_left _ _, Int.le_max_left _ _⟩⟩⟩
  · have k := nX_box a b c d g h
    exact ⟨k, ⟨⟨Int.min_le_right _ _, Int.le_max_right _ _⟩, ⟨Int.min_le_right _ _, Int.le_max_right _ _⟩⟩⟩
def exC (x : Bd) : Int := max x.ax (-x.ax) + x.r
def eyC (x : Bd) : Int := max x.ay (-x.ay) + x.r
/-- Bodies that touch have boxes that overlap. -/
theorem tch_box {x y : Bd} (hx : okC x) (hy : okC y) (h : tchB x y = true) : (x.px - exC x ≤ y.px + exC y ∧ y.px - exC y ≤ x.px + exC x) ∧ (x.py - eyC x ≤ y.py + eyC y ∧ y.py - eyC y ≤ x.py + eyC x) := by
  have c := (tch_iff hx hy).1 h
  have g := root_ge (cln_is hx hy)
  have b := chs_box (x.px - x.ax) (x.py - x.ay) (x.px + x.ax) (x.py + x.ay) (y.px - y.ax) (y.py - y.ay) (y.px + y.ax) (y.py + y.ay)
  obtain ⟨z, hz⟩ : ∃ z, z = cc x y := ⟨_, rfl⟩
  have hz2 : z = chs (x.px - x.ax) (x.py - x.ay) (x.px + x.ax) (x.py + x.ay) (y.px - y.ax) (y.py - y.ay) (y.px + y.ax) (y.py + y.ay) := hz
  rw [← hz2] at b
  unfold cdx cdy at g
  rw [← hz] at g
  unfold csm at c
  unfold exC eyC
  omega
/-- A body moved. -/
theorem cc_mv {x y x' y' : Bd} {v u : Int} (h1 : x'.px = x.px + v ∧ x'.py = x.py + u ∧ x'.ax = x.ax ∧ x'.ay = x.ay) (h2 : y'.px = y.px + v ∧ y'.py = y.py + u ∧ y'.ax = y.ax ∧ y'.ay = y.ay) : cc x' y' = mvT v u (cc x y) := by
  obtain ⟨a1, a2, a3, a4⟩ := h1
  obtain ⟨b1, b2, b3, b4⟩ := h2
  unfold cc
  rw [a1, a2, a3, a4, b1, b2, b3, b4]
  have e1 : x.px + v - x.ax = x.px - x.ax + v := by omega
  have e2 : x.py + u - x.ay = x.py - x.ay + u := by omega
  have e3 : x.px + v + x.ax = x.px + x.ax + v := by omega
  have e4 : x.py + u + x.ay = x.py + x.ay + u := by omega
  have e5 : y.px + v - y.ax = y.px - y.ax + v := by omega
  have e6 : y.py + u - y.ay = y.py - y.ay + u := by omega
  have e7 : y.px + v + y.ax = y.px + y.ax + v := by omega
  have e8 : y.py + u + y.ay = y.py + y.ay + u := by omega
  rw [e1, e2, e3, e4, e5, e6, e7, e8]
  exact chs_mv _ _ _ _ _ _ _ _ _ _
theorem con_mv {x y x' y' : Bd} {v u : Int} (h1 : x'.px = x.px + v ∧ x'.py = x.py + u ∧ x'.ax = x.ax ∧ x'.ay = x.ay) (h2 : y'.px = y.px + v ∧ y'.py = y.py + u ∧ y'.ax = y.ax ∧ y'.ay = y.ay) (k1 : x'.k = x.k) (k2 : y'.k = y.k) (r1 : x'.r = x.r) (r2 : y'.r = y.r) : tchB x' y' = tchB x y ∧ conV x' y' = conV x y ∧ gapC x' y' = gapC x y := by
  have e := cc_mv h1 h2
  have e1 : cdx x' y' = cdx x y := by
    unfold cdx
    rw [e]
    show (cc x y).c + v - ((cc x y).a + v) = _
    omega
  have e2 : cdy x' y' = cdy x y := by
    unfold cdy
    rw [e]
    show (cc x y).d + u - ((cc x y).b + u) = _
    omega
  have e3 : cln x' y' = cln x y := by unfold cln; rw [e]; rfl
  have e4 : csm x' y' = csm x y := by unfold csm; rw [r1, r2]
  have e5 : tchB x' y' = tchB x y := by unfold tchB; rw [e, e4]; rfl
  refine ⟨e5, ?_, ?_⟩
  · unfold conV conC
    rw [e5, e1, e2, e3, e4, k1, k2]
  · unfold gapC
    rw [e3, e4]
/-- Circles: the chosen points are the positions. -/
theorem cc_cir {x y : Bd} (h1 : x.ax = 0 ∧ x.ay = 0) (h2 : y.ax = 0 ∧ y.ay = 0) : cdx x y = y.px - x.px ∧ cdy x y = y.py - x.py := by
  have e := chs_pts x.px x.py y.px y.py
  have q : cc x y = chs x.px x.py x.px x.py y.px y.py y.px y.py := by
    unfold cc
    rw [h1.1, h1.2, h2.1, h2.2]
    simp only [Int.sub_zero, Int.add_zero]
  unfold cdx cdy
  rw [q, e.1, e.2.1, e.2.2.1, e.2.2.2]
  exact ⟨rfl, rfl⟩
theorem un_neg {d n : Int} (h : 0 < n) : -1 ≤ un d n + un (-d) n ∧ un d n + un (-d) n ≤ 0 := by
  unfold un
  rw [Int.neg_mul]
  have h1 := Int.emod_add_mul_ediv (d * 65536) n
  have h2 := Int.emod_add_mul_ediv (-(d * 65536)) n
  have h3 := Int.emod_nonneg (d * 65536) (show n ≠ 0 by omega)
  have h4 := Int.emod_lt_of_pos (d * 65536) h
  have h5 := Int.emod_nonneg (-(d * 65536)) (show n ≠ 0 by omega)
  have h6 := Int.emod_lt_of_pos (-(d * 65536)) h
  generalize d * 65536 / n = a at *
  generalize -(d * 65536) / n = b at *
  have e : n * (a + b) = n * a + n * b := Int.mul_add _ _ _
  have k1 : n * (a + b) ≤ 0 := by omega
  have k2 : -(2 * n) < n * (a + b) := by omega
  constructor
  · apply Int.not_lt.1
    intro q
    have := Int.mul_le_mul_of_nonneg_left (show a + b ≤ -2 by omega) (show 0 ≤ n by omega)
    omega
  · apply Int.not_lt.1
    intro q
    have := Int.mul_le_mul_of_nonneg_left (show 1 ≤ a + b by omega) (show 0 ≤ n by omega)
    omega
end Go.Proofs.Ytlbbacmpdlghaaa
end
