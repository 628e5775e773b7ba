/-
  Package segment: its slow reference.
-/
import Derived.Test.YtlcenopebgkjgaaSegMath
import Derived.Test.YtlcenopebgkjgaaPointRef2
import Derived.Deep.DeepCutAuto
import Derived.Deep.QuietTactic
import Derived.BigQuiet
namespace Go.Proofs.Ytlcenopebgkjgaa
open Go.RowKit Go.Lib

/-- Two points in range, and the square of their distance. -/
structure Good (x : Tw) : Prop where
  a : Cin x.a
  b : Cin x.b
  c : Cin x.c
  d : Cin x.d
  t : x.t = sq2 (x.c - x.a) (x.d - x.b)
theorem good_pk {x y : Tw} (hx : Good x) (hy : Good y) : Good (pk x y) := by
  rcases pk_or x y with q | q <;> rw [q] <;> assumption
theorem good_mk {a b c d : Int} (h1 : Cin a) (h2 : Cin b) (h3 : Cin c) (h4 : Cin d) : Good (mkT a b c d) := ⟨h1, h2, h3, h4, rfl⟩
abbrev RD2 (a b c d t : Int) : Prop := ∀ w, Calls Try.prog 26 #[.agg #[.int .i32 a, .int .i32 b, .int .i32 c, .int .i32 d]] w fun e w' => e = .returned (.int .u64 t) ∧ Kep w.heap.size w w'
abbrev RCh (px py qx qy mx my nx ny : Int) (x : Tw) : Prop := ∀ w, Calls Try.prog 37 #[.agg #[.int .i32 px, .int .i32 py], .agg #[.int .i32 qx, .int .i32 qy], .agg #[.int .i32 mx, .int .i32 my], .agg #[.int .i32 nx, .int .i32 ny]] w fun e w' => e = .returned (.agg #[.int .i32 x.a, .int .i32 x.b, .int .i32 x.c, .int .i32 x.d]) ∧ Kep w.heap.size w w'
set_option maxRecDepth 100000 in
set_option maxHeartbeats 1000000 in
theorem rd2 {a b c d t : Int} (h1 : Cin a) (h2 : Cin b) (h3 : Cin c) (h4 : Cin d) (ht : sq2 (c - a) (d - b) = t) : RD2 a b c d t := fun w => by
  have C := Lib.hid (rlsq2 (a := c - a) (b := d - b) (by unfold Cin at *; unfold InD; omega) (by unfold Cin at *; unfold InD; omega) ht)
  have e0 : IntKind.i64.wrap a = a := by rw [IntKind.wrap_i64]; omega
  have e1 : IntKind.i64.wrap b = b := by rw [IntKind.wrap_i64]; omega
  have e2 : IntKind.i64.wrap c = c := by rw [IntKind.wrap_i64]; omega
  have e3 : IntKind.i64.wrap d = d := by rw [IntKind.wrap_i64]; omega
  have e4 : IntKind.i64.wrap (c - a) = c - a := by rw [IntKind.wrap_i64]; omega
  have e5 : IntKind.i64.wrap (d - b) = d - b := by rw [IntKind.wrap_i64]; omega
  clear h1 h2 h3 h4 ht
  go_enter Try.func26, Try.ntmps26
  go_wp2_with (first
    | ((with_reducible refine (C.out _).mono ?_); rintro e w2 ⟨rfl, rfl⟩))
  go_ret
  exact ⟨rfl, (kep_more (Kep.refl _ _) _)⟩
theorem Good.rd {x : Tw} (h : Good x) : RD2 x.a x.b x.c x.d x.t := rd2 h.a h.b h.c h.d h.t.symm
/-- Two segments in range. -/
def sgB (px py qx qy mx my nx ny : Int) : Bool := rgB px py qx qy mx my && rgB mx my nx ny px py
theorem sg_of {px py qx qy mx my nx ny : Int} (h : sgB px py qx qy mx my nx ny = true) : Rg px py qx qy mx my ∧ Rg mx my nx ny px py := by
  unfold sgB at h
  rw [Bool.and_eq_true] at h
  exact ⟨rgB_iff.1 h.1, rgB_iff.1 h.2⟩
theorem rneF {px py qx qy cx cy : Int} (H : Rg px py qx qy cx cy) : RNe px py qx qy cx cy (nX px py qx qy cx cy) (nY px py qx qy cx cy) := Pt.cne ⟨rfl, rfl, rfl, rfl, rfl, rfl, rfl, rfl, rfl⟩ H
theorem nX_cin {px py qx qy cx cy : Int} (H : Rg px py qx qy cx cy) : Cin (nX px py qx qy cx cy) ∧ Cin (nY px py qx qy cx cy) := by
  have P : Pt px py qx qy cx cy (qx - px) (qy - py) (cx - px) (cy - py) _ _ (nX px py qx qy cx cy) (nY px py qx qy cx cy) _ := ⟨rfl, rfl, rfl, rfl, rfl, rfl, rfl, rfl, rfl⟩
  obtain ⟨h1, h2⟩ := P.box
  obtain ⟨a1, a2, a3, a4, _, _, _, _⟩ := H
  unfold Cin at *
  omega
/-- The four ranges. -/
theorem sg_rg {px py qx qy mx my nx ny : Int} (h : sgB px py qx qy mx my nx ny = true) : Rg mx my nx ny px py ∧ Rg mx my nx ny qx qy ∧ Rg px py qx qy mx my ∧ Rg px py qx qy nx ny := by
  obtain ⟨⟨h1, h2, h3, h4, h5, h6, h7, h8⟩, h9, h10, h11, h12, _, _, h13, h14⟩ := sg_of h
  exact ⟨⟨h9, h10, h11, h12, h1, h2, h13, h14⟩, ⟨h9, h10, h11, h12, h3, h4, h13, h14⟩, ⟨h1, h2, h3, h4, h5, h6, h7, h8⟩, ⟨h1, h2, h3, h4, h11, h12, h7, h8⟩⟩
theorem sg_good {px py qx qy mx my nx ny : Int} (h : sgB px py qx qy mx my nx ny = true) : Good (tw0 px py qx qy mx my nx ny) ∧ Good (tw1 px py qx qy mx my nx ny) ∧ Good (tw2 px py qx qy mx my nx ny) ∧ Good (tw3 px py qx qy mx my nx ny) := by
  obtain ⟨h0, h1, h2, h3⟩ := sg_rg h
  exact ⟨good_mk h0.hcx h0.hcy (nX_cin h0).1 (nX_cin h0).2, good_mk h1.hcx h1.hcy (nX_cin h1).1 (nX_cin h1).2, good_mk (nX_cin h2).1 (nX_cin h2).2 h2.hcx h2.hcy, good_mk (nX_cin h3).1 (nX_cin h3).2 h3.hcx h3.hcy⟩
theorem sg_chs {px py qx qy mx my nx ny : Int} (h : sgB px py qx qy mx my nx ny = true) : Good (chs px py qx qy mx my nx ny) := by
  obtain ⟨h0, h1, h2, h3⟩ := sg_good h
  exact good_pk (good_pk (good_pk h0 h1) h2) h3
/-- The best of the first k. -/
def bsK (E0 E1 E2 E3 : Tw) : Nat → Tw
  | 0 => E0
  | 1 => E0
  | 2 => pk E0 E1
  | 3 => pk (pk E0 E1) E2
  | _ => pk (pk (pk E0 E1) E2) E3
/-- Two points in a block of the call's own. -/
structure Bc (w : World) (b : Nat) (x : Tw) : Prop where
  c0 : w.cell? ⟨b, 0, none⟩ = some (.int .i32 x.a)
  c1 : w.cell? ⟨b, 1, none⟩ = some (.int .i32 x.b)
  c2 : w.cell? ⟨b, 2, none⟩ = some (.int .i32 x.c)
  c3 : w.cell? ⟨b, 3, none⟩ = some (.int .i32 x.d)
  f : ∀ j, w.frozen? ⟨b, j, none⟩ = false
theorem Bc.kep {w w' : World} {b : Nat} {x : Tw} (h : Bc w b x) (g : Kep w.heap.size w w') : Bc w' b x := ⟨g.all h.c0, g.all h.c1, g.all h.c2, g.all h.c3, fun j => (g.frozen (p := ⟨b, j, none⟩) (World.block_lt_of_cell? w ⟨b, 0, none⟩ h.c0)).trans (h.f j)⟩
theorem Bc.set {w : World} {b : Nat} {x : Tw} (h : Bc w b x) (y : Tw) : Bc ((((w.setCell ⟨b, 0, none⟩ (.int .i32 y.a)).setCell ⟨b, 1, none⟩ (.int .i32 y.b)).setCell ⟨b, 2, none⟩ (.int .i32 y.c)).setCell ⟨b, 3, none⟩ (.int .i32 y.d)) b y := by
  refine ⟨?_, ?_, ?_, ?_, fun j => by rw [World.frozen?_setCell, World.frozen?_setCell, World.frozen?_setCell, World.frozen?_setCell]; exact h.f j⟩
  · exact (World.cell?_setCell_other _ _ _ _ (by simp)).trans ((World.cell?_setCell_other _ _ _ _ (by simp)).trans ((World.cell?_setCell_other _ _ _ _ (by simp)).trans (World.cell?_setCell_same _ _ _ h.c0)))
  · exact (World.cell?_setCell_other _ _ _ _ (by simp)).trans ((World.cell?_setCell_other _ _ _ _ (by simp)).trans (World.cell?_setCell_same _ _ _ ((World.cell?_setCell_other _ _ _ _ (by simp)).trans h.c1)))
  · exact (World.cell?_setCell_other _ _ _ _ (by simp)).trans (World.cell?_setCell_same _ _ _ ((World.cell?_setCell_other _ _ _ _ (by simp)).trans ((World.cell?_setCell_other _ _ _ _ (by simp)).trans h.c2)))
  · exact World.cell?_setCell_same _ _ _ ((World.cell?_setCell_other _ _ _ _ (by simp)).trans ((World.cell?_setCell_other _ _ _ _ (by simp)).trans ((World.cell?_setCell_other _ _ _ _ (by simp)).trans h.c3)))
theorem pk_less {u v : Tw} (h : decide (v.t < u.t) = true) : pk u v = v := if_pos (of_decide_eq_true h)
theorem pk_not {u v : Tw} (h : decide (v.t < u.t) = false) : pk u v = u := if_neg (of_decide_eq_false h)
end Go.Proofs.Ytlcenopebgkjgaa
