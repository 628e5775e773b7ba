import Derived.Test.YtaknmlohnifcdaaGreatDoorJ03RootArith
import Derived.Test.YtaknmlohnifcdaaGreatDoorJ02Seq
import Derived.Test.YtaknmlohnifcdaaGreatDoorJ00Bits
import Derived.Deep.DeepCutAuto
import Derived.Deep.QuietTactic
import Derived.BigQuiet
import Derived.Test.YtaknmlohnifcdaaGreatDoorJ01Bodies

/-! J04PointRef: PointRef, PointRef2, SegRef, ConMath, JacMath, CorMath, IntMath. -/

section
/-
  Package point: its slow reference.
-/
namespace Go.Proofs.YtaknmlohnifcdaaGreatDoor
open Go.RowKit Go.Lib

abbrev Cin (n : Int) : Prop := -1082130432 ≤ n ∧ n ≤ 1082130432
abbrev Din (n : Int) : Prop := -16777216 ≤ n ∧ n ≤ 16777216
/-- A segment and a point in range. -/
structure Rg (px py qx qy cx cy : Int) : Prop where
  hpx : Cin px
  hpy : Cin py
  hqx : Cin qx
  hqy : Cin qy
  hcx : Cin cx
  hcy : Cin cy
  hdx : Din (qx - px)
  hdy : Din (qy - py)
theorem sq_dn {d : Int} (h : Din d) : 0 ≤ d * d ∧ d * d ≤ 281474976710656 := by
  obtain ⟨h1, h2⟩ := h
  rcases Int.le_total 0 d with c | c
  · have := Int.mul_le_mul h2 h2 c (by omega)
    exact ⟨Int.mul_nonneg c c, by omega⟩
  · have h3 : -d ≤ 16777216 := by omega
    have := Int.mul_le_mul h3 h3 (by omega) (by omega)
    rw [Int.neg_mul_neg] at this
    exact ⟨Int.mul_nonneg_of_nonpos_of_nonpos c c, by omega⟩
theorem sqP_dn {dx dy : Int} (hx : Din dx) (hy : Din dy) : 0 ≤ sqP dx dy ∧ sqP dx dy ≤ 562949953421312 := by
  have h1 := sq_dn hx
  have h2 := sq_dn hy
  unfold sqP
  omega
theorem mul_dn {u d : Int} (hu : -2181038080 ≤ u ∧ u ≤ 2181038080) (hd : Din d) : -36591746972385280 ≤ u * d ∧ u * d ≤ 36591746972385280 := by
  obtain ⟨h1, h2⟩ := hd
  have key : ∀ a b : Int, 0 ≤ a → a ≤ 2181038080 → -16777216 ≤ b → b ≤ 16777216 → -36591746972385280 ≤ a * b ∧ a * b ≤ 36591746972385280 := fun a b ha ha2 hb1 hb2 => by
    rcases Int.le_total 0 b with c | c
    · have := Int.mul_le_mul ha2 hb2 c (by omega)
      have := Int.mul_nonneg ha c
      omega
    · have := Int.mul_le_mul ha2 (show -b ≤ 16777216 by omega) (by omega) (by omega)
      have h := Int.mul_nonneg ha (show 0 ≤ -b by omega)
      rw [Int.mul_neg] at *
      omega
  rcases Int.le_total 0 u with c | c
  · exact key u d c hu.2 h1 h2
  · have := key (-u) d (by omega) (by omega) h1 h2
    rw [Int.neg_mul] at this
    omega
theorem mdv_st {dx n d : Int} (hd : 0 < d) (h0 : 0 ≤ n) (h1 : n ≤ d) (hx : Din dx) : mdv dx n d = stP dx n d ∧ mde dx n d = 0 := by
  have h := stP_in (dx := dx) h0 h1
  have e : fl (dx * n) d = stP dx n d := by unfold fl stP; rw [if_neg (by omega), if_neg (by omega)]
  have hI : I64 (stP dx n d) := by obtain ⟨h3, h4⟩ := hx; unfold I64; omega
  have hc : ¬ d = 0 := by omega
  constructor
  · show (if d = 0 then 0 else rv (fl (dx * n) d)) = _
    rw [if_neg hc, e]
    exact if_pos hI
  · show (if d = 0 then 2 else re (fl (dx * n) d)) = _
    rw [if_neg hc, e]
    exact if_pos hI
theorem st_box {px qx dx n d : Int} (h0 : 0 ≤ n) (h1 : n ≤ d) (hx : qx - px = dx) : min px qx ≤ px + stP dx n d ∧ px + stP dx n d ≤ max px qx := by
  have := stP_in (dx := dx) h0 h1
  omega
end Go.Proofs.YtaknmlohnifcdaaGreatDoor
end

section
/-
  Package point: the reference's DistSq, In, Right; all its results of a segment and a point.
-/
namespace Go.Proofs.YtaknmlohnifcdaaGreatDoor
open Go.RowKit Go.Lib

/-- The results for a segment and a point. -/
structure Pt (px py qx qy cx cy dx dy ux uy d n x y t : Int) : Prop where
  hx : qx - px = dx
  hy : qy - py = dy
  hu : cx - px = ux
  hv : cy - py = uy
  hd : sqP dx dy = d
  hn : paP ux uy dx dy = n
  hX : px + stP dx n d = x
  hY : py + stP dy n d = y
  ht : lsq (x - cx) (y - cy) = t
theorem Pt.par {px py qx qy cx cy dx dy ux uy d n x y t : Int} (P : Pt px py qx qy cx cy dx dy ux uy d n x y t) : 0 ≤ n ∧ n ≤ d := by
  have := paP_in ux uy dx dy
  rw [P.hn, P.hd] at this
  exact this
theorem Pt.box {px py qx qy cx cy dx dy ux uy d n x y t : Int} (P : Pt px py qx qy cx cy dx dy ux uy d n x y t) : (min px qx ≤ x ∧ x ≤ max px qx) ∧ (min py qy ≤ y ∧ y ≤ max py qy) := by
  have h := P.par
  have h1 := st_box h.1 h.2 P.hx
  have h2 := st_box h.1 h.2 P.hy
  rw [P.hX] at h1
  rw [P.hY] at h2
  exact ⟨h1, h2⟩
theorem Pt.ind {px py qx qy cx cy dx dy ux uy d n x y t : Int} (P : Pt px py qx qy cx cy dx dy ux uy d n x y t) (H : Rg px py qx qy cx cy) : InD (x - cx) ∧ InD (y - cy) := by
  obtain ⟨h1, h2⟩ := P.box
  obtain ⟨a1, a2, a3, a4, a5, a6, _, _⟩ := H
  unfold InD
  omega
/-- A point in range. -/
def inB (x y : Int) : Bool := decide (Cin x ∧ Cin y)
/-- A segment and a point in range. -/
def rgB (px py qx qy cx cy : Int) : Bool := inB px py && inB qx qy && inB cx cy && decide (Din (qx - px) ∧ Din (qy - py))
theorem rgB_iff {px py qx qy cx cy : Int} : rgB px py qx qy cx cy = true ↔ Rg px py qx qy cx cy := by
  unfold rgB inB
  simp only [Bool.and_eq_true, decide_eq_true_iff]
  constructor
  · rintro ⟨⟨⟨⟨h1, h2⟩, h3, h4⟩, h5, h6⟩, h7, h8⟩
    exact ⟨h1, h2, h3, h4, h5, h6, h7, h8⟩
  · rintro ⟨h1, h2, h3, h4, h5, h6, h7, h8⟩
    exact ⟨⟨⟨⟨h1, h2⟩, h3, h4⟩, h5, h6⟩, h7, h8⟩
end Go.Proofs.YtaknmlohnifcdaaGreatDoor
end

section
/-
  Package segment: its slow reference.
-/
namespace Go.Proofs.YtaknmlohnifcdaaGreatDoor
open Go.RowKit Go.Lib

/-- Two points in range, and the square of their distance. -/
structure Good (x : Tw) : Prop where
  a : Cin x.a
  b : Cin x.b
  c : Cin x.c
  d : Cin x.d
  t : x.t = sq2 (x.c - x.a) (x.d - x.b)
theorem good_pk {x y : Tw} (hx : Good x) (hy : Good y) : Good (pk x y) := by
  rcases pk_or x y with q | q <;> rw [q] <;> assumption
theorem good_mk {a b c d : Int} (h1 : Cin a) (h2 : Cin b) (h3 : Cin c) (h4 : Cin d) : Good (mkT a b c d) := ⟨h1, h2, h3, h4, rfl⟩
/-- Two segments in range. -/
def sgB (px py qx qy mx my nx ny : Int) : Bool := rgB px py qx qy mx my && rgB mx my nx ny px py
theorem sg_of {px py qx qy mx my nx ny : Int} (h : sgB px py qx qy mx my nx ny = true) : Rg px py qx qy mx my ∧ Rg mx my nx ny px py := by
  unfold sgB at h
  rw [Bool.and_eq_true] at h
  exact ⟨rgB_iff.1 h.1, rgB_iff.1 h.2⟩
theorem nX_cin {px py qx qy cx cy : Int} (H : Rg px py qx qy cx cy) : Cin (nX px py qx qy cx cy) ∧ Cin (nY px py qx qy cx cy) := by
  have P : Pt px py qx qy cx cy (qx - px) (qy - py) (cx - px) (cy - py) _ _ (nX px py qx qy cx cy) (nY px py qx qy cx cy) _ := ⟨rfl, rfl, rfl, rfl, rfl, rfl, rfl, rfl, rfl⟩
  obtain ⟨h1, h2⟩ := P.box
  obtain ⟨a1, a2, a3, a4, _, _, _, _⟩ := H
  unfold Cin at *
  omega
/-- The four ranges. -/
theorem sg_rg {px py qx qy mx my nx ny : Int} (h : sgB px py qx qy mx my nx ny = true) : Rg mx my nx ny px py ∧ Rg mx my nx ny qx qy ∧ Rg px py qx qy mx my ∧ Rg px py qx qy nx ny := by
  obtain ⟨⟨h1, h2, h3, h4, h5, h6, h7, h8⟩, h9, h10, h11, h12, _, _, h13, h14⟩ := sg_of h
  exact ⟨⟨h9, h10, h11, h12, h1, h2, h13, h14⟩, ⟨h9, h10, h11, h12, h3, h4, h13, h14⟩, ⟨h1, h2, h3, h4, h5, h6, h7, h8⟩, ⟨h1, h2, h3, h4, h11, h12, h7, h8⟩⟩
theorem sg_good {px py qx qy mx my nx ny : Int} (h : sgB px py qx qy mx my nx ny = true) : Good (tw0 px py qx qy mx my nx ny) ∧ Good (tw1 px py qx qy mx my nx ny) ∧ Good (tw2 px py qx qy mx my nx ny) ∧ Good (tw3 px py qx qy mx my nx ny) := by
  obtain ⟨h0, h1, h2, h3⟩ := sg_rg h
  exact ⟨good_mk h0.hcx h0.hcy (nX_cin h0).1 (nX_cin h0).2, good_mk h1.hcx h1.hcy (nX_cin h1).1 (nX_cin h1).2, good_mk (nX_cin h2).1 (nX_cin h2).2 h2.hcx h2.hcy, good_mk (nX_cin h3).1 (nX_cin h3).2 h3.hcx h3.hcy⟩
theorem sg_chs {px py qx qy mx my nx ny : Int} (h : sgB px py qx qy mx my nx ny = true) : Good (chs px py qx qy mx my nx ny) := by
  obtain ⟨h0, h1, h2, h3⟩ := sg_good h
  exact good_pk (good_pk (good_pk h0 h1) h2) h3
/-- The best of the first k. -/
def bsK (E0 E1 E2 E3 : Tw) : Nat → Tw
  | 0 => E0
  | 1 => E0
  | 2 => pk E0 E1
  | 3 => pk (pk E0 E1) E2
  | _ => pk (pk (pk E0 E1) E2) E3
/-- Two points in a block of the call's own. -/
structure Bc (w : World) (b : Nat) (x : Tw) : Prop where
  c0 : w.cell? ⟨b, 0, none⟩ = some (.int .i32 x.a)
  c1 : w.cell? ⟨b, 1, none⟩ = some (.int .i32 x.b)
  c2 : w.cell? ⟨b, 2, none⟩ = some (.int .i32 x.c)
  c3 : w.cell? ⟨b, 3, none⟩ = some (.int .i32 x.d)
  f : ∀ j, w.frozen? ⟨b, j, none⟩ = false
theorem Bc.kep {w w' : World} {b : Nat} {x : Tw} (h : Bc w b x) (g : Kep w.heap.size w w') : Bc w' b x := ⟨g.all h.c0, g.all h.c1, g.all h.c2, g.all h.c3, fun j => (g.frozen (p := ⟨b, j, none⟩) (World.block_lt_of_cell? w ⟨b, 0, none⟩ h.c0)).trans (h.f j)⟩
theorem Bc.set {w : World} {b : Nat} {x : Tw} (h : Bc w b x) (y : Tw) : Bc ((((w.setCell ⟨b, 0, none⟩ (.int .i32 y.a)).setCell ⟨b, 1, none⟩ (.int .i32 y.b)).setCell ⟨b, 2, none⟩ (.int .i32 y.c)).setCell ⟨b, 3, none⟩ (.int .i32 y.d)) b y := by
  refine ⟨?_, ?_, ?_, ?_, fun j => by rw [World.frozen?_setCell, World.frozen?_setCell, World.frozen?_setCell, World.frozen?_setCell]; exact h.f j⟩
  · exact (World.cell?_setCell_other _ _ _ _ (by simp)).trans ((World.cell?_setCell_other _ _ _ _ (by simp)).trans ((World.cell?_setCell_other _ _ _ _ (by simp)).trans (World.cell?_setCell_same _ _ _ h.c0)))
  · exact (World.cell?_setCell_other _ _ _ _ (by simp)).trans ((World.cell?_setCell_other _ _ _ _ (by simp)).trans (World.cell?_setCell_same _ _ _ ((World.cell?_setCell_other _ _ _ _ (by simp)).trans h.c1)))
  · exact (World.cell?_setCell_other _ _ _ _ (by simp)).trans (World.cell?_setCell_same _ _ _ ((World.cell?_setCell_other _ _ _ _ (by simp)).trans ((World.cell?_setCell_other _ _ _ _ (by simp)).trans h.c2)))
  · exact World.cell?_setCell_same _ _ _ ((World.cell?_setCell_other _ _ _ _ (by simp)).trans ((World.cell?_setCell_other _ _ _ _ (by simp)).trans ((World.cell?_setCell_other _ _ _ _ (by simp)).trans h.c3)))
theorem pk_less {u v : Tw} (h : decide (v.t < u.t) = true) : pk u v = v := if_pos (of_decide_eq_true h)
theorem pk_not {u v : Tw} (h : decide (v.t < u.t) = false) : pk u v = u := if_neg (of_decide_eq_false h)
end Go.Proofs.YtaknmlohnifcdaaGreatDoor
end

section
/-
  Package contact: the arithmetic of contacts (no program).
-/
namespace Go.Proofs.YtaknmlohnifcdaaGreatDoor
open Go.RowKit Go.Lib

/-- A valid body. -/
def okC (x : Bd) : Prop := chk x.r x.ax x.ay x.m x.o x.px x.py x.vx x.vy = 0
/-- The chosen points of two bodies' cores. -/
def cc (x y : Bd) : Tw := chs (x.px - x.ax) (x.py - x.ay) (x.px + x.ax) (x.py + x.ay) (y.px - y.ax) (y.py - y.ay) (y.px + y.ax) (y.py + y.ay)
def cdx (x y : Bd) : Int := (cc x y).c - (cc x y).a
def cdy (x y : Bd) : Int := (cc x y).d - (cc x y).b
def cln (x y : Bd) : Int := rt (cc x y).t
def csm (x y : Bd) : Int := x.r + y.r
/-- Two bodies touch, the one with the lesser key first. -/
def tchB (x y : Bd) : Bool := decide ((cc x y).t < csm x y * csm x y)
/-- A contact: its five numbers. -/
structure Ct where
  lo : Int
  hi : Int
  nx : Int
  ny : Int
  dp : Int
def conC (x y : Bd) : Ct := ⟨x.k, y.k, ux (cdx x y) (cln x y), uy (cdy x y) (cln x y), csm x y - cln x y⟩
def conV (x y : Bd) : Ct := if tchB x y = true then conC x y else ⟨0, 0, 0, 0, 0⟩
def gapC (x y : Bd) : Int := cln x y - csm x y
/-- Of two bodies the one with the lesser key, and the other one. -/
def lowB (x y : Bd) : Bd := if y.k < x.k then y else x
def higB (x y : Bd) : Bd := if y.k < x.k then x else y
theorem low_ok {x y : Bd} (hx : okC x) (hy : okC y) : okC (lowB x y) ∧ okC (higB x y) := by
  unfold lowB higB
  split
  · exact ⟨hy, hx⟩
  · exact ⟨hx, hy⟩
theorem okC_lim {x : Bd} (h : okC x) : (4096 ≤ x.r ∧ x.r ≤ 4194304) ∧ ((-4194304 ≤ x.ax ∧ x.ax ≤ 4194304) ∧ (-4194304 ≤ x.ay ∧ x.ay ≤ 4194304)) ∧ ((-1073741824 ≤ x.px ∧ x.px ≤ 1073741824) ∧ (-1073741824 ≤ x.py ∧ x.py ≤ 1073741824)) := chk_lim h
theorem cc_sg {x y : Bd} (hx : okC x) (hy : okC y) : sgB (x.px - x.ax) (x.py - x.ay) (x.px + x.ax) (x.py + x.ay) (y.px - y.ax) (y.py - y.ay) (y.px + y.ax) (y.py + y.ay) = true := by
  have h1 := okC_lim hx
  have h2 := okC_lim hy
  unfold sgB
  rw [Bool.and_eq_true]
  refine ⟨rgB_iff.2 ⟨?_, ?_, ?_, ?_, ?_, ?_, ?_, ?_⟩, rgB_iff.2 ⟨?_, ?_, ?_, ?_, ?_, ?_, ?_, ?_⟩⟩ <;> first | (unfold Cin; omega) | (unfold Din; omega)
theorem cc_good {x y : Bd} (hx : okC x) (hy : okC y) : Good (cc x y) := sg_chs (cc_sg hx hy)
theorem cc_t {x y : Bd} (hx : okC x) (hy : okC y) : (cc x y).t = lsq (cdx x y) (cdy x y) := (cc_good hx hy).t
theorem cc_ind {x y : Bd} (hx : okC x) (hy : okC y) : InD (cdx x y) ∧ InD (cdy x y) := by
  have g := cc_good hx hy
  have h1 := g.a
  have h2 := g.b
  have h3 := g.c
  have h4 := g.d
  unfold Cin at *
  unfold InD cdx cdy
  omega
theorem cln_is {x y : Bd} (hx : okC x) (hy : okC y) : IsRoot (cln x y) (lsq (cdx x y) (cdy x y)) := by
  have e := cc_t hx hy
  unfold cln
  rw [e]
  exact rt_is (sqP_nn _ _)
theorem cln_bd {x y : Bd} (hx : okC x) (hy : okC y) : 0 ≤ cln x y ∧ cln x y ≤ 4294967295 := by
  have h := cln_is hx hy
  have i := cc_ind hx hy
  have l := (lsq_in i.1 i.2).2
  exact ⟨h.1, h.le_max (by omega)⟩
theorem csm_bd {x y : Bd} (hx : okC x) (hy : okC y) : 8192 ≤ csm x y ∧ csm x y ≤ 8388608 := by
  have h1 := okC_lim hx
  have h2 := okC_lim hy
  unfold csm
  omega
/-- They touch exactly if the length is less than the sum of the radii. -/
theorem tch_iff {x y : Bd} (hx : okC x) (hy : okC y) : tchB x y = true ↔ cln x y < csm x y := by
  have h := cln_is hx hy
  have e := cc_t hx hy
  have hs := csm_bd hx hy
  unfold tchB
  rw [decide_eq_true_iff, e]
  have k := h.iff (t := csm x y) (by omega)
  constructor
  · intro c
    apply Int.not_le.1
    intro q
    have := k.2 q
    omega
  · intro c
    apply Int.not_le.1
    intro q
    have := k.1 q
    omega
theorem nX_box (p q r s c d : Int) : (min p r ≤ nX p q r s c d ∧ nX p q r s c d ≤ max p r) ∧ (min q s ≤ nY p q r s c d ∧ nY p q r s c d ≤ max q s) := by
  have h := paP_in (c - p) (d - q) (r - p) (s - q)
  exact ⟨st_box h.1 h.2 rfl, st_box h.1 h.2 rfl⟩
/-- The chosen points lie in the boxes of the segments. -/
theorem chs_box (a b c d e f g h : Int) : ((min a c ≤ (chs a b c d e f g h).a ∧ (chs a b c d e f g h).a ≤ max a c) ∧ (min b d ≤ (chs a b c d e f g h).b ∧ (chs a b c d e f g h).b ≤ max b d)) ∧ ((min e g ≤ (chs a b c d e f g h).c ∧ (chs a b c d e f g h).c ≤ max e g) ∧ (min f h ≤ (chs a b c d e f g h).d ∧ (chs a b c d e f g h).d ≤ max f h)) := by
  rcases chs_or a b c d e f g h with q | q | q | q <;> rw [q]
  · have k := nX_box e f g h a b
    exact ⟨⟨⟨Int.min_le_left _ _, Int.le_max_left _ _⟩, ⟨Int.min_le_left _ _, Int.le_max_left _ _⟩⟩, k⟩
  · have k := nX_box e f g h c d
    exact ⟨⟨⟨Int.min_le_right _ _, Int.le_max_right _ _⟩, ⟨Int.min_le_right _ _, Int.le_max_right _ _⟩⟩, k⟩
  · have k := nX_box a b c d e f
    exact ⟨k, ⟨⟨Int.min_le_left _ _, Int.le_max_left _ _⟩, ⟨Int.min_le_left _ _, Int.le_max_left _ _⟩⟩⟩
  · have k := nX_box a b c d g h
    exact ⟨k, ⟨⟨Int.min_le_right _ _, Int.le_max_right _ _⟩, ⟨Int.min_le_right _ _, Int.le_max_right _ _⟩⟩⟩
def exC (x : Bd) : Int := max x.ax (-x.ax) + x.r
def eyC (x : Bd) : Int := max x.ay (-x.ay) + x.r
/-- Bodies that touch have boxes that overlap. -/
theorem tch_box {x y : Bd} (hx : okC x) (hy : okC y) (h : tchB x y = true) : (x.px - exC x ≤ y.px + exC y ∧ y.px - exC y ≤ x.px + exC x) ∧ (x.py - eyC x ≤ y.py + eyC y ∧ y.py - eyC y ≤ x.py + eyC x) := by
  have c := (tch_iff hx hy).1 h
  have g := root_ge (cln_is hx hy)
  have b := chs_box (x.px - x.ax) (x.py - x.ay) (x.px + x.ax) (x.py + x.ay) (y.px - y.ax) (y.py - y.ay) (y.px + y.ax) (y.py + y.ay)
  obtain ⟨z, hz⟩ : ∃ z, z = cc x y := ⟨_, rfl⟩
  have hz2 : z = chs (x.px - x.ax) (x.py - x.ay) (x.px + x.ax) (x.py + x.ay) (y.px - y.ax) (y.py - y.ay) (y.px + y.ax) (y.py + y.ay) := hz
  rw [← hz2] at b
  unfold cdx cdy at g
  rw [← hz] at g
  unfold csm at c
  unfold exC eyC
  omega
/-- A body moved. -/
theorem cc_mv {x y x' y' : Bd} {v u : Int} (h1 : x'.px = x.px + v ∧ x'.py = x.py + u ∧ x'.ax = x.ax ∧ x'.ay = x.ay) (h2 : y'.px = y.px + v ∧ y'.py = y.py + u ∧ y'.ax = y.ax ∧ y'.ay = y.ay) : cc x' y' = mvT v u (cc x y) := by
  obtain ⟨a1, a2, a3, a4⟩ := h1
  obtain ⟨b1, b2, b3, b4⟩ := h2
  unfold cc
  rw [a1, a2, a3, a4, b1, b2, b3, b4]
  have e1 : x.px + v - x.ax = x.px - x.ax + v := by omega
  have e2 : x.py + u - x.ay = x.py - x.ay + u := by omega
  have e3 : x.px + v + x.ax = x.px + x.ax + v := by omega
  have e4 : x.py + u + x.ay = x.py + x.ay + u := by omega
  have e5 : y.px + v - y.ax = y.px - y.ax + v := by omega
  have e6 : y.py + u - y.ay = y.py - y.ay + u := by omega
  have e7 : y.px + v + y.ax = y.px + y.ax + v := by omega
  have e8 : y.py + u + y.ay = y.py + y.ay + u := by omega
  rw [e1, e2, e3, e4, e5, e6, e7, e8]
  exact chs_mv _ _ _ _ _ _ _ _ _ _
theorem con_mv {x y x' y' : Bd} {v u : Int} (h1 : x'.px = x.px + v ∧ x'.py = x.py + u ∧ x'.ax = x.ax ∧ x'.ay = x.ay) (h2 : y'.px = y.px + v ∧ y'.py = y.py + u ∧ y'.ax = y.ax ∧ y'.ay = y.ay) (k1 : x'.k = x.k) (k2 : y'.k = y.k) (r1 : x'.r = x.r) (r2 : y'.r = y.r) : tchB x' y' = tchB x y ∧ conV x' y' = conV x y ∧ gapC x' y' = gapC x y := by
  have e := cc_mv h1 h2
  have e1 : cdx x' y' = cdx x y := by
    unfold cdx
    rw [e]
    show (cc x y).c + v - ((cc x y).a + v) = _
    omega
  have e2 : cdy x' y' = cdy x y := by
    unfold cdy
    rw [e]
    show (cc x y).d + u - ((cc x y).b + u) = _
    omega
  have e3 : cln x' y' = cln x y := by unfold cln; rw [e]; rfl
  have e4 : csm x' y' = csm x y := by unfold csm; rw [r1, r2]
  have e5 : tchB x' y' = tchB x y := by unfold tchB; rw [e, e4]; rfl
  refine ⟨e5, ?_, ?_⟩
  · unfold conV conC
    rw [e5, e1, e2, e3, e4, k1, k2]
  · unfold gapC
    rw [e3, e4]
end Go.Proofs.YtaknmlohnifcdaaGreatDoor
end

section
/-
  Package jacobi: rounds over lists of bodies and of contacts (no program).
-/
namespace Go.Proofs.YtaknmlohnifcdaaGreatDoor
open Go.RowKit Go.Lib

/-- Sums of integers. -/
def isum : List Int → Int
  | [] => 0
  | a :: l => a + isum l
theorem isum_app : ∀ (a b : List Int), isum (a ++ b) = isum a + isum b
  | [], b => by simp [isum]
  | x :: a, b => by
    show x + isum (a ++ b) = x + isum a + isum b
    rw [isum_app a b]
    omega
theorem isum_bd {B : Int} (_hB : 0 ≤ B) : ∀ {l : List Int}, (∀ a ∈ l, -B ≤ a ∧ a ≤ B) → -((l.length : Int) * B) ≤ isum l ∧ isum l ≤ (l.length : Int) * B
  | [], _ => by simp [isum]
  | x :: l, h => by
    have h1 := h x (by simp)
    have h2 := isum_bd _hB (l := l) (fun a ha => h a (by simp [ha]))
    have e : ((x :: l).length : Int) * B = (l.length : Int) * B + B := by
      rw [List.length_cons, Int.natCast_succ, Int.add_mul, Int.one_mul]
    rw [e]
    show -((l.length : Int) * B + B) ≤ x + isum l ∧ x + isum l ≤ (l.length : Int) * B + B
    omega
theorem isum_zero : ∀ {l : List Int}, (∀ a ∈ l, a = 0) → isum l = 0
  | [], _ => rfl
  | x :: l, h => by
    show x + isum l = 0
    rw [h x (by simp), isum_zero fun a ha => h a (by simp [ha])]
    rfl
/-- The body with a key. -/
def bdK (L : List Bd) (k : Int) : Bd := match look L k with
  | some x => x
  | none => ⟨0, 0, 0, 0, 0, 0, 0, 0, 0, 0⟩
theorem bdK_eq {L : List Bd} {k : Int} {x : Bd} (h : look L k = some x) : bdK L k = x := by unfold bdK; rw [h]
/-- The strength of a contact of bodies of L. -/
def stJ (L : List Bd) (c : Ct) : Int := stI c.nx c.ny (bdK L c.lo) (bdK L c.hi)
/-- What a contact adds to a component of a body's sum. -/
def conJ (f : Ct → Int) (L : List Bd) (x : Bd) (c : Ct) : Int := if c.lo = x.k then -(chI (stJ L c) x.m (f c)) else if c.hi = x.k then chI (stJ L c) x.m (f c) else 0
def sumJ (f : Ct → Int) (L : List Bd) (C : List Ct) (x : Bd) : Int := isum (C.map (conJ f L x))
theorem sumJ_app (f : Ct → Int) (L : List Bd) (C D : List Ct) (x : Bd) : sumJ f L (C ++ D) x = sumJ f L C x + sumJ f L D x := by
  unfold sumJ
  rw [List.map_append, isum_app]
def limJ (n : Int) : Int := max (-16777216) (min n 16777216)
def rndX (L : List Bd) (C : List Ct) (x : Bd) : Int := limJ (x.vx + sumJ (·.nx) L C x)
def rndY (L : List Bd) (C : List Ct) (x : Bd) : Int := limJ (x.vy + sumJ (·.ny) L C x)
def velB (x : Bd) (a b : Int) : Bd := ⟨x.k, x.r, x.ax, x.ay, x.m, x.o, x.px, x.py, a, b⟩
def rndB (L : List Bd) (C : List Ct) (x : Bd) : Bd := velB x (rndX L C x) (rndY L C x)
/-- Whether a limit changes a velocity. -/
def clB (L : List Bd) (C : List Ct) (x : Bd) : Bool := decide (rndX L C x ≠ x.vx + sumJ (·.nx) L C x) || decide (rndY L C x ≠ x.vy + sumJ (·.ny) L C x)
def rndL (L : List Bd) (C : List Ct) : List Bd := L.map (rndB L C)
def clL (L : List Bd) (C : List Ct) : Bool := L.any (clB L C)
def slvN (C : List Ct) (L : List Bd) : Nat → List Bd × Bool
  | 0 => (L, false)
  | n + 1 => (rndL (slvN C L n).1 C, (slvN C L n).2 || clL (slvN C L n).1 C)
theorem limJ_bd (n : Int) : -16777216 ≤ limJ n ∧ limJ n ≤ 16777216 := by unfold limJ; omega
theorem limJ_id {n : Int} (h : -16777216 ≤ n ∧ n ≤ 16777216) : limJ n = n := by unfold limJ; omega
/-- What P17 asks of contacts. -/
structure RgC (L : List Bd) (c : Ct) : Prop where
  lt : c.lo < c.hi
  lo : (look L c.lo).isSome = true
  hi : (look L c.hi).isSome = true
  nx : Nr c.nx
  ny : Nr c.ny
theorem stJ_bd {L : List Bd} (hv : ∀ x ∈ L, Vb x) {c : Ct} (h : RgC L c) : 0 ≤ stJ L c ∧ stJ L c ≤ 8796093022208 := by
  obtain ⟨x, hx⟩ := Option.isSome_iff_exists.1 h.lo
  obtain ⟨y, hy⟩ := Option.isSome_iff_exists.1 h.hi
  unfold stJ
  rw [bdK_eq hx, bdK_eq hy]
  exact st_bd (hv _ (look_some hx).1) (hv _ (look_some hy).1) h.nx h.ny
theorem chI_bd {j m n : Int} (hj : 0 ≤ j ∧ j ≤ 8796093022208) (hm : 0 ≤ m ∧ m ≤ 1048576) (hn : Nr n) : -140737488355328 ≤ chI j m n ∧ chI j m n ≤ 140737488355328 := by
  have k := k_bd hj hm
  exact ch_bd ⟨k.2.2.1, k.2.2.2⟩ hn
theorem conJ_bd {f : Ct → Int} {L : List Bd} (hv : ∀ x ∈ L, Vb x) {x : Bd} (hx : x ∈ L) {c : Ct} (h : RgC L c) (hf : Nr (f c)) : -140737488355328 ≤ conJ f L x c ∧ conJ f L x c ≤ 140737488355328 := by
  have b := chI_bd (stJ_bd hv h) ⟨(hv x hx).m0, (hv x hx).m1⟩ hf
  unfold conJ
  repeat' split
  all_goals omega
theorem sumJ_bd {f : Ct → Int} {L : List Bd} (hv : ∀ x ∈ L, Vb x) {x : Bd} (hx : x ∈ L) {C : List Ct} (hC : ∀ c ∈ C, RgC L c) (hf : ∀ c ∈ C, Nr (f c)) (hl : C.length ≤ 1000) : -140737488355328000 ≤ sumJ f L C x ∧ sumJ f L C x ≤ 140737488355328000 := by
  have b := isum_bd (B := 140737488355328) (by decide) (l := C.map (conJ f L x)) (fun a ha => by
    obtain ⟨c, hc, rfl⟩ := List.mem_map.1 ha
    exact conJ_bd hv hx (hC c hc) (hf c hc))
  rw [List.length_map] at b
  unfold sumJ
  omega
/-- A static body's sum is zero, and that of a body without a contact. -/
theorem chI_static (j n : Int) : chI j 0 n = 0 := by
  unfold chI
  rw [Int.mul_zero, Int.zero_ediv, Int.zero_mul, Int.zero_ediv]
theorem sumJ_static {f : Ct → Int} {L : List Bd} {C : List Ct} {x : Bd} (h : x.m = 0) : sumJ f L C x = 0 := by
  unfold sumJ
  refine isum_zero fun a ha => ?_
  obtain ⟨c, hc, rfl⟩ := List.mem_map.1 ha
  unfold conJ
  rw [h, chI_static]
  repeat' split
  all_goals rfl
theorem sumJ_unused {f : Ct → Int} {L : List Bd} {C : List Ct} {x : Bd} (h : ∀ c ∈ C, c.lo ≠ x.k ∧ c.hi ≠ x.k) : sumJ f L C x = 0 := by
  unfold sumJ
  refine isum_zero fun a ha => ?_
  obtain ⟨c, hc, rfl⟩ := List.mem_map.1 ha
  unfold conJ
  rw [if_neg (h c hc).1, if_neg (h c hc).2]
theorem rnd_id {L : List Bd} {C : List Ct} {x : Bd} (hv : Vb x) (h1 : sumJ (·.nx) L C x = 0) (h2 : sumJ (·.ny) L C x = 0) : rndB L C x = x ∧ clB L C x = false := by
  have a := hv.vx0; have b := hv.vx1; have c := hv.vy0; have d := hv.vy1
  have e1 : rndX L C x = x.vx := by unfold rndX; rw [h1, Int.add_zero, limJ_id ⟨a, b⟩]
  have e2 : rndY L C x = x.vy := by unfold rndY; rw [h2, Int.add_zero, limJ_id ⟨c, d⟩]
  constructor
  · unfold rndB velB
    rw [e1, e2]
  · unfold clB
    rw [e1, e2, h1, h2, Int.add_zero, Int.add_zero]
    simp
/-- What solving keeps. -/
structure SmJ (x y : Bd) : Prop where
  k : y.k = x.k
  r : y.r = x.r
  ax : y.ax = x.ax
  ay : y.ay = x.ay
  m : y.m = x.m
  o : y.o = x.o
  px : y.px = x.px
  py : y.py = x.py
theorem slv_len (C : List Ct) (L : List Bd) : ∀ n, (slvN C L n).1.length = L.length
  | 0 => rfl
  | n + 1 => by
    show (rndL (slvN C L n).1 C).length = _
    unfold rndL
    rw [List.length_map, slv_len C L n]
theorem rndB_sm (L : List Bd) (C : List Ct) (x : Bd) : SmJ x (rndB L C x) := ⟨rfl, rfl, rfl, rfl, rfl, rfl, rfl, rfl⟩
theorem SmJ.vb {x y : Bd} (h : SmJ x y) (hx : Vb x) (h1 : -16777216 ≤ y.vx ∧ y.vx ≤ 16777216) (h2 : -16777216 ≤ y.vy ∧ y.vy ≤ 16777216) : Vb y := by
  have a := hx.m0; have b := hx.m1; have c := hx.o0; have d := hx.o1
  exact ⟨by rw [h.m]; exact a, by rw [h.m]; exact b, by rw [h.o]; exact c, by rw [h.o]; exact d, h1.1, h1.2, h2.1, h2.2⟩
theorem rndB_vb {L : List Bd} {C : List Ct} {x : Bd} (hx : Vb x) : Vb (rndB L C x) := (rndB_sm L C x).vb hx (limJ_bd _) (limJ_bd _)
theorem slv_at {C : List Ct} {L : List Bd} {i : Nat} {x : Bd} (hv : Vb x) (hx : L[i]? = some x) : ∀ n, ∃ y, (slvN C L n).1[i]? = some y ∧ SmJ x y ∧ Vb y ∧ (x.m = 0 ∨ (∀ c ∈ C, c.lo ≠ x.k ∧ c.hi ≠ x.k) → y.vx = x.vx ∧ y.vy = x.vy)
  | 0 => ⟨x, hx, ⟨rfl, rfl, rfl, rfl, rfl, rfl, rfl, rfl⟩, hv, fun _ => ⟨rfl, rfl⟩⟩
  | n + 1 => by
    obtain ⟨y, hy, sm, vb, hs⟩ := slv_at hv hx n
    refine ⟨rndB (slvN C L n).1 C y, ?_, ?_, rndB_vb vb, fun q => ?_⟩
    · show (rndL (slvN C L n).1 C)[i]? = _
      unfold rndL
      rw [List.getElem?_map, hy]
      rfl
    · have t := rndB_sm (slvN C L n).1 C y
      exact ⟨t.k.trans sm.k, t.r.trans sm.r, t.ax.trans sm.ax, t.ay.trans sm.ay, t.m.trans sm.m, t.o.trans sm.o, t.px.trans sm.px, t.py.trans sm.py⟩
    · have z : ∀ f : Ct → Int, sumJ f (slvN C L n).1 C y = 0 := fun f => by
        rcases q with q | q
        · exact sumJ_static (by rw [sm.m]; exact q)
        · exact sumJ_unused fun c hc => by rw [sm.k]; exact q c hc
      have e := (rnd_id vb (z _) (z _)).1
      rw [e]
      exact hs q
/-- A map that keeps the keys keeps what is found. -/
theorem look_map {g : Bd → Bd} (hg : ∀ x, (g x).k = x.k) : ∀ (L : List Bd) (key : Int), look (L.map g) key = (look L key).map g
  | [], _ => rfl
  | x :: l, key => by
    show (if (g x).k = key then some (g x) else look (l.map g) key) = (if x.k = key then some x else look l key).map g
    rw [hg, look_map hg l key]
    split <;> rfl
theorem rgc_rnd {L : List Bd} {D : List Ct} {c : Ct} (h : RgC L c) : RgC (rndL L D) c := by
  obtain ⟨h1, h2, h3, h4, h5⟩ := h
  refine ⟨h1, ?_, ?_, h4, h5⟩
  · unfold rndL; rw [look_map (g := rndB L D) (fun _ => rfl), Option.isSome_map]; exact h2
  · unfold rndL; rw [look_map (g := rndB L D) (fun _ => rfl), Option.isSome_map]; exact h3
theorem rgc_slv {L : List Bd} {C : List Ct} {c : Ct} (h : RgC L c) : ∀ n, RgC (slvN C L n).1 c
  | 0 => h
  | n + 1 => rgc_rnd (rgc_slv h n)
theorem any_take {α : Type} {t : α → Bool} {L : List α} {k : Nat} {y : α} (h : L[k]? = some y) : (L.take (k + 1)).any t = ((L.take k).any t || t y) := by
  rw [List.take_add_one, h]
  simp
end Go.Proofs.YtaknmlohnifcdaaGreatDoor
end

section
/-
  Package correct: corrections, shares and shifts as numbers (no program).
-/
namespace Go.Proofs.YtaknmlohnifcdaaGreatDoor
open Go.RowKit Go.Lib

/-- The correction of a contact with a depth, of two bodies. -/
def amI (dp : Int) (x y : Bd) : Int := if dp ≤ 1024 ∨ x.m + y.m = 0 then 0 else (dp - 1024) * 26214 / 65536
/-- The share of a body with an inverse mass. -/
def shI (dp : Int) (x y : Bd) (m : Int) : Int := if amI dp x y = 0 then 0 else amI dp x y * m / (x.m + y.m)
/-- What a depth may be. -/
abbrev Dp (n : Int) : Prop := 1 ≤ n ∧ n ≤ 16777216
theorem am_bd {dp : Int} {x y : Bd} (h : Dp dp) : 0 ≤ amI dp x y ∧ amI dp x y < dp ∧ amI dp x y ≤ 6710476 := by
  unfold amI
  split <;> omega
theorem am_zero {dp : Int} {x y : Bd} (h : x.m + y.m = 0) : amI dp x y = 0 := by
  unfold amI
  rw [if_pos (.inr h)]
/-- The parts of a quotient. -/
theorem div_part {n a b : Int} (hn : 0 ≤ n) (ha : 0 ≤ a) (hb : 0 ≤ b) (hab : 0 < a + b) : 0 ≤ n * a / (a + b) ∧ n * a / (a + b) + n * b / (a + b) ≤ n ∧ n - 1 ≤ n * a / (a + b) + n * b / (a + b) := by
  have e : n * a + n * b = n * (a + b) := by rw [Int.mul_add]
  have p1 := Int.mul_nonneg hn ha
  have p2 := Int.mul_nonneg hn hb
  generalize n * a = p at *
  generalize n * b = q at *
  generalize a + b = d at *
  have h1 := Int.mul_ediv_add_emod p d
  have h2 := Int.mul_ediv_add_emod q d
  have r1 := Int.emod_nonneg p (show d ≠ 0 by omega)
  have r2 := Int.emod_nonneg q (show d ≠ 0 by omega)
  have s1 := Int.emod_lt_of_pos p hab
  have s2 := Int.emod_lt_of_pos q hab
  have q0 := Int.ediv_nonneg p1 (Int.le_of_lt hab)
  generalize p / d = u at *
  generalize q / d = v at *
  have e2 : d * (u + v) = d * u + d * v := by rw [Int.mul_add]
  have e3 : n * d = d * n := Int.mul_comm _ _
  refine ⟨q0, ?_, ?_⟩
  · have : d * (u + v) ≤ d * n := by omega
    exact Int.le_of_mul_le_mul_left this hab
  · have h3 : d * n < d * (u + v + 2) := by
      rw [Int.mul_add d (u + v) 2]
      omega
    have := Int.lt_of_mul_lt_mul_left h3 (Int.le_of_lt hab)
    omega
theorem sh_parts {dp : Int} {x y : Bd} (h : Dp dp) (hx : Vb x) (hy : Vb y) : 0 ≤ shI dp x y x.m ∧ 0 ≤ shI dp x y y.m ∧ shI dp x y x.m + shI dp x y y.m ≤ amI dp x y ∧ amI dp x y - 1 ≤ shI dp x y x.m + shI dp x y y.m ∨ amI dp x y = 0 ∧ shI dp x y x.m = 0 ∧ shI dp x y y.m = 0 := by
  by_cases c : amI dp x y = 0
  · right
    unfold shI
    rw [if_pos c, if_pos c]
    exact ⟨c, rfl, rfl⟩
  · left
    have hd : 0 < x.m + y.m := by
      have := hx.m0; have := hy.m0
      have : x.m + y.m ≠ 0 := fun e => c (am_zero e)
      omega
    have p := div_part (am_bd (x := x) (y := y) h).1 hx.m0 hy.m0 hd
    have p2 := div_part (am_bd (x := x) (y := y) h).1 hy.m0 hx.m0 (by omega)
    rw [Int.add_comm y.m x.m] at p2
    unfold shI
    rw [if_neg c, if_neg c]
    exact ⟨p.1, p2.1, p.2.1, p.2.2⟩
theorem sh_bd {dp : Int} {x y : Bd} (h : Dp dp) (hx : Vb x) (hy : Vb y) : (0 ≤ shI dp x y x.m ∧ shI dp x y x.m ≤ 6710476) ∧ (0 ≤ shI dp x y y.m ∧ shI dp x y y.m ≤ 6710476) := by
  have b := am_bd (x := x) (y := y) h
  rcases sh_parts h hx hy with ⟨p1, p2, p3, p4⟩ | ⟨p1, p2, p3⟩ <;> omega
/-- What a contact adds to a component of a body's shift. -/
def conS (f : Ct → Int) (L : List Bd) (x : Bd) (c : Ct) : Int :=
  if c.lo = x.k then -(shI c.dp (bdK L c.lo) (bdK L c.hi) x.m * f c / 65536) else if c.hi = x.k then shI c.dp (bdK L c.lo) (bdK L c.hi) x.m * f c / 65536 else 0
def shfI (f : Ct → Int) (L : List Bd) (C : List Ct) (x : Bd) : Int := isum (C.map (conS f L x))
theorem shf_app (f : Ct → Int) (L : List Bd) (C D : List Ct) (x : Bd) : shfI f L (C ++ D) x = shfI f L C x + shfI f L D x := by
  unfold shfI
  rw [List.map_append, isum_app]
/-- A share times a component of a normal. -/
theorem shn_bd {s n : Int} (hs : 0 ≤ s ∧ s ≤ 6710476) (hn : Nr n) : (-439777755136 ≤ s * n ∧ s * n ≤ 439777755136) ∧ -6710476 ≤ s * n / 65536 ∧ s * n / 65536 ≤ 6710476 := by
  have b := mul_bd (a := s) (b := n) (A := 6710476) (B := 65536) ⟨by omega, hs.2⟩ ⟨hn.1, hn.2⟩
  have e : (6710476 : Int) * 65536 = 439777755136 := by decide
  rw [e] at b
  omega
/-- A contact as P18 asks. -/
structure RsC (L : List Bd) (c : Ct) : Prop extends RgC L c where
  dp : Dp c.dp
theorem conS_at {f : Ct → Int} {L : List Bd} {x a b : Bd} {c : Ct} (ha : look L c.lo = some a) (hb : look L c.hi = some b) :
    conS f L x c = if c.lo = x.k then -(shI c.dp a b x.m * f c / 65536) else if c.hi = x.k then shI c.dp a b x.m * f c / 65536 else 0 := by
  unfold conS
  rw [bdK_eq ha, bdK_eq hb]
/-- A body's share of a contact of its own. -/
theorem own_share {L : List Bd} (hA : ∀ x ∈ L, look L x.k = some x) (hv : ∀ x ∈ L, Vb x) {x : Bd} (hx : x ∈ L) {c : Ct} (h : RsC L c) (hk : c.lo = x.k ∨ c.hi = x.k) :
    0 ≤ shI c.dp (bdK L c.lo) (bdK L c.hi) x.m ∧ shI c.dp (bdK L c.lo) (bdK L c.hi) x.m ≤ 6710476 := by
  obtain ⟨a, ha⟩ := Option.isSome_iff_exists.1 h.lo
  obtain ⟨b, hb⟩ := Option.isSome_iff_exists.1 h.hi
  rw [bdK_eq ha, bdK_eq hb]
  have s := sh_bd h.dp (hv a (look_some ha).1) (hv b (look_some hb).1)
  have hl := hA x hx
  rcases hk with e | e
  · rw [e, hl] at ha
    injection ha with ha
    rw [ha]
    exact s.1
  · rw [e, hl] at hb
    injection hb with hb
    rw [hb]
    exact s.2
theorem conS_bd {f : Ct → Int} {L : List Bd} (hA : ∀ x ∈ L, look L x.k = some x) (hv : ∀ x ∈ L, Vb x) {x : Bd} (hx : x ∈ L) {c : Ct} (h : RsC L c) (hf : Nr (f c)) : -6710476 ≤ conS f L x c ∧ conS f L x c ≤ 6710476 := by
  unfold conS
  split
  · rename_i e
    have := (shn_bd (own_share hA hv hx h (.inl e)) hf).2
    omega
  · split
    · rename_i e
      have := (shn_bd (own_share hA hv hx h (.inr e)) hf).2
      omega
    · omega
theorem shf_bd {f : Ct → Int} {L : List Bd} (hA : ∀ x ∈ L, look L x.k = some x) (hv : ∀ x ∈ L, Vb x) {x : Bd} (hx : x ∈ L) {C : List Ct} (hC : ∀ c ∈ C, RsC L c) (hf : ∀ c ∈ C, Nr (f c)) (hl : C.length ≤ 1000) : -6710476000 ≤ shfI f L C x ∧ shfI f L C x ≤ 6710476000 := by
  have b := isum_bd (B := 6710476) (by decide) (l := C.map (conS f L x)) (fun a ha => by
    obtain ⟨c, hc, rfl⟩ := List.mem_map.1 ha
    exact conS_bd hA hv hx (hC c hc) (hf c hc))
  rw [List.length_map] at b
  unfold shfI
  omega
/-- A shift: two numbers. -/
abbrev Sh := Int × Int
def shv (s : Sh) : List Value := [.int .i64 s.1, .int .i64 s.2]
theorem shv_len (s : Sh) : (shv s).length = 2 := rfl
def shfB (L : List Bd) (C : List Ct) (x : Bd) : Sh := (shfI (·.nx) L C x, shfI (·.ny) L C x)
def shfL (L : List Bd) (C : List Ct) : List Sh := L.map (shfB L C)
end Go.Proofs.YtaknmlohnifcdaaGreatDoor
end

section
/-
  Package integrate: gravity, motion and pushes as numbers (no program).
-/
namespace Go.Proofs.YtaknmlohnifcdaaGreatDoor
open Go.RowKit Go.Lib

def limW (n : Int) : Int := max (-1073741824) (min n 1073741824)
theorem limW_bd (n : Int) : -1073741824 ≤ limW n ∧ limW n ≤ 1073741824 := by unfold limW; omega
/-- A body at another place. -/
def plB (x : Bd) (a b : Int) : Bd := ⟨x.k, x.r, x.ax, x.ay, x.m, x.o, a, b, x.vx, x.vy⟩
/-- A body behind gravity, and whether a limit changed its velocity. -/
def grvY (x : Bd) : Int := x.vy - 1024
def grvB (x : Bd) : Bd := if 0 < x.m then velB x x.vx (limJ (grvY x)) else x
def grvC (x : Bd) : Bool := decide (0 < x.m) && decide (limJ (grvY x) ≠ grvY x)
/-- A body behind its motion. -/
def mtX (x : Bd) (s : Sh) : Int := x.px + s.1 + x.vx / 64
def mtY (x : Bd) (s : Sh) : Int := x.py + s.2 + x.vy / 64
def mtB (x : Bd) (s : Sh) : Bd := plB x (limW (mtX x s)) (limW (mtY x s))
def mtC (x : Bd) (s : Sh) : Bool := decide (limW (mtX x s) ≠ mtX x s) || decide (limW (mtY x s) ≠ mtY x s)
/-- What a component of a shift may be. -/
abbrev Si (n : Int) : Prop := -4611686018427387904 ≤ n ∧ n ≤ 4611686018427387904
abbrev Sin (s : Sh) : Prop := Si s.1 ∧ Si s.2
/-- What the rules of a body say of its place and velocity. -/
structure Pb (x : Bd) : Prop where
  px0 : -1073741824 ≤ x.px
  px1 : x.px ≤ 1073741824
  py0 : -1073741824 ≤ x.py
  py1 : x.py ≤ 1073741824
theorem chk_six {r ax ay m o px py vx vy : Int} (h : chk r ax ay m o px py vx vy = 0) : (4096 ≤ r ∧ r ≤ 4194304) ∧ ((-4194304 ≤ ax ∧ ax ≤ 4194304) ∧ (-4194304 ≤ ay ∧ ay ≤ 4194304)) ∧ (0 ≤ m ∧ m ≤ 1048576) ∧ (0 ≤ o ∧ o ≤ 65536) ∧ ((-1073741824 ≤ px ∧ px ≤ 1073741824) ∧ (-1073741824 ≤ py ∧ py ≤ 1073741824)) ∧ ((-16777216 ≤ vx ∧ vx ≤ 16777216) ∧ (-16777216 ≤ vy ∧ vy ≤ 16777216)) := by
  unfold chk at h
  repeat' split at h
  all_goals first
    | exact absurd h (by decide)
    | (rename_i a1 a2 a3 a4 a5 a6; exact ⟨a1, a2, a3, a4, a5, a6⟩)
theorem chk_mk {r ax ay m o px py vx vy : Int} (h : (4096 ≤ r ∧ r ≤ 4194304) ∧ ((-4194304 ≤ ax ∧ ax ≤ 4194304) ∧ (-4194304 ≤ ay ∧ ay ≤ 4194304)) ∧ (0 ≤ m ∧ m ≤ 1048576) ∧ (0 ≤ o ∧ o ≤ 65536) ∧ ((-1073741824 ≤ px ∧ px ≤ 1073741824) ∧ (-1073741824 ≤ py ∧ py ≤ 1073741824)) ∧ ((-16777216 ≤ vx ∧ vx ≤ 16777216) ∧ (-16777216 ≤ vy ∧ vy ≤ 16777216))) : chk r ax ay m o px py vx vy = 0 := by
  obtain ⟨h1, h2, h3, h4, h5, h6⟩ := h
  unfold chk
  rw [if_pos h1, if_pos h2, if_pos h3, if_pos h4, if_pos h5, if_pos h6]
theorem pb_of {x : Bd} (h : okI x) : Pb x := by
  obtain ⟨_, _, _, _, h5, _⟩ := chk_six h
  exact ⟨h5.1.1, h5.1.2, h5.2.1, h5.2.2⟩
theorem ok_vel {x : Bd} {a b : Int} (h : okI x) (ha : -16777216 ≤ a ∧ a ≤ 16777216) (hb : -16777216 ≤ b ∧ b ≤ 16777216) : okI (velB x a b) := by
  obtain ⟨h1, h2, h3, h4, h5, _⟩ := chk_six h
  exact chk_mk ⟨h1, h2, h3, h4, h5, ha, hb⟩
theorem ok_pl {x : Bd} {a b : Int} (h : okI x) (ha : -1073741824 ≤ a ∧ a ≤ 1073741824) (hb : -1073741824 ≤ b ∧ b ≤ 1073741824) : okI (plB x a b) := by
  obtain ⟨h1, h2, h3, h4, _, h6⟩ := chk_six h
  exact chk_mk ⟨h1, h2, h3, h4, ⟨ha, hb⟩, h6⟩
theorem ok_grv {x : Bd} (h : okI x) : okI (grvB x) := by
  unfold grvB
  split
  · obtain ⟨_, _, _, _, _, h6⟩ := chk_six h
    exact ok_vel h h6.1 (limJ_bd _)
  · exact h
theorem ok_mv {x : Bd} (s : Sh) (h : okI x) : okI (mtB x s) := ok_pl h (limW_bd _) (limW_bd _)
theorem grvY_bd {x : Bd} (h : Vb x) : -16778240 ≤ grvY x ∧ grvY x ≤ 16776192 := by
  have := h.vy0; have := h.vy1
  unfold grvY
  omega
theorem mtX_bd {x : Bd} {s : Sh} (h : Vb x) (p : Pb x) (hs : Sin s) : -9223372036854775808 ≤ mtX x s ∧ mtX x s ≤ 9223372036854775807 ∧ -9223372036854775808 ≤ x.px + s.1 ∧ x.px + s.1 ≤ 9223372036854775807 ∧ -262144 ≤ x.vx / 64 ∧ x.vx / 64 ≤ 262144 := by
  have := h.vx0; have := h.vx1; have := p.px0; have := p.px1; have := hs.1.1; have := hs.1.2
  unfold mtX
  omega
theorem mtY_bd {x : Bd} {s : Sh} (h : Vb x) (p : Pb x) (hs : Sin s) : -9223372036854775808 ≤ mtY x s ∧ mtY x s ≤ 9223372036854775807 ∧ -9223372036854775808 ≤ x.py + s.2 ∧ x.py + s.2 ≤ 9223372036854775807 ∧ -262144 ≤ x.vy / 64 ∧ x.vy / 64 ≤ 262144 := by
  have := h.vy0; have := h.vy1; have := p.py0; have := p.py1; have := hs.2.1; have := hs.2.2
  unfold mtY
  omega
/-- Views and lists of shifts, body by body. -/
def mtL (L : List Bd) (S : List Sh) : List Bd := List.zipWith mtB L S
def mtA (L : List Bd) (S : List Sh) : List Bool := List.zipWith mtC L S
theorem mtL_len {L : List Bd} {S : List Sh} (h : S.length = L.length) : (mtL L S).length = L.length := by
  unfold mtL
  rw [List.length_zipWith, h, Nat.min_self]
theorem mtL_at {L : List Bd} {S : List Sh} {k : Nat} {x : Bd} {s : Sh} (hx : L[k]? = some x) (hs : S[k]? = some s) : (mtL L S)[k]? = some (mtB x s) := by
  unfold mtL
  rw [List.getElem?_zipWith, hx, hs]
theorem mtA_at {L : List Bd} {S : List Sh} {k : Nat} {x : Bd} {s : Sh} (hx : L[k]? = some x) (hs : S[k]? = some s) : (mtA L S)[k]? = some (mtC x s) := by
  unfold mtA
  rw [List.getElem?_zipWith, hx, hs]
theorem mtA_len {L : List Bd} {S : List Sh} (h : S.length = L.length) : (mtA L S).length = L.length := by
  unfold mtA
  rw [List.length_zipWith, h, Nat.min_self]
theorem mtL_mem {L : List Bd} {S : List Sh} {y : Bd} (h : y ∈ mtL L S) : ∃ x s, x ∈ L ∧ s ∈ S ∧ y = mtB x s := by
  obtain ⟨k, hk⟩ := List.mem_iff_getElem?.1 h
  unfold mtL at hk
  rw [List.getElem?_zipWith] at hk
  cases hx : L[k]? with
  | none => rw [hx] at hk; simp at hk
  | some x =>
    cases hs : S[k]? with
    | none => rw [hx, hs] at hk; simp at hk
    | some s =>
      rw [hx, hs] at hk
      injection hk with hk
      exact ⟨x, s, List.mem_of_getElem? hx, List.mem_of_getElem? hs, hk.symm⟩
theorem takeB {A : List Bool} {k : Nat} {z : Bool} (h : A[k]? = some z) : (A.take (k + 1)).any id = ((A.take k).any id || z) := by
  rw [List.take_add_one, h]
  simp
end Go.Proofs.YtaknmlohnifcdaaGreatDoor
end
