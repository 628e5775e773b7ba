/-
  Package segment: the law SegmentLeast.
-/
import Derived.Test.YtadbpfmgdjegoaaSegCon
import Derived.Deep.DeepCutAuto
import Derived.Deep.QuietTactic
import Derived.BigQuiet
namespace Go.Proofs.Ytadbpfmgdjegoaa
open Go.RowKit Go.Lib

set_option maxRecDepth 100000 in
set_option maxHeartbeats 2000000 in
theorem sll_bad (AW : Hid SAwake) (px py qx qy mx my nx ny : Int) (hr : sgB px py qx qy mx my nx ny = false) (w : World) : Calls Try.prog 4 #[.agg #[.int .i32 px, .int .i32 py], .agg #[.int .i32 qx, .int .i32 qy], .agg #[.int .i32 mx, .int .i32 my], .agg #[.int .i32 nx, .int .i32 ny]] w fun e w' => e = .returned (.bool true) ∧ Kep w.heap.size w w' := by
  have RR := Lib.hid (rr4 px py qx qy mx my nx ny false hr)
  clear hr
  go_enter Try.func4, Try.ntmps4
  go_wp2_with (first
    | ((with_reducible refine (AW.out _).mono ?_); rintro e w1 ⟨rfl, g1⟩
       first
         | (replace gg := kep_next gg g1)
         | (have p0 := Kep.all g1 (a := ⟨w.heap.size, 0, none⟩) (v := .int .i32 px) (by (repeat (first | rw [World.cell?_drew] | rw [World.cell?_alloc_past _ _ _ (by first | (simp; done) | (simp; omega))])); rw [World.cell?_alloc_at _ _ _ _ (by simp)]; rfl)
            have p1 := Kep.all g1 (a := ⟨w.heap.size, 1, none⟩) (v := .int .i32 py) (by (repeat (first | rw [World.cell?_drew] | rw [World.cell?_alloc_past _ _ _ (by first | (simp; done) | (simp; omega))])); rw [World.cell?_alloc_at _ _ _ _ (by simp)]; rfl)
            have q0 := Kep.all g1 (a := ⟨w.heap.size + 1, 0, none⟩) (v := .int .i32 qx) (by (repeat (first | rw [World.cell?_drew] | rw [World.cell?_alloc_past _ _ _ (by first | (simp; done) | (simp; omega))])); rw [World.cell?_alloc_at _ _ _ _ (by simp)]; rfl)
            have q1 := Kep.all g1 (a := ⟨w.heap.size + 1, 1, none⟩) (v := .int .i32 qy) (by (repeat (first | rw [World.cell?_drew] | rw [World.cell?_alloc_past _ _ _ (by first | (simp; done) | (simp; omega))])); rw [World.cell?_alloc_at _ _ _ _ (by simp)]; rfl)
            have m0 := Kep.all g1 (a := ⟨w.heap.size + 1 + 1, 0, none⟩) (v := .int .i32 mx) (by (repeat (first | rw [World.cell?_drew] | rw [World.cell?_alloc_past _ _ _ (by first | (simp; done) | (simp; omega))])); rw [World.cell?_alloc_at _ _ _ _ (by simp)]; rfl)
            have m1 := Kep.all g1 (a := ⟨w.heap.size + 1 + 1, 1, none⟩) (v := .int .i32 my) (by (repeat (first | rw [World.cell?_drew] | rw [World.cell?_alloc_past _ _ _ (by first | (simp; done) | (simp; omega))])); rw [World.cell?_alloc_at _ _ _ _ (by simp)]; rfl)
            have n0 := Kep.all g1 (a := ⟨w.heap.size + 1 + 1 + 1, 0, none⟩) (v := .int .i32 nx) (by (repeat (first | rw [World.cell?_drew] | rw [World.cell?_alloc_past _ _ _ (by first | (simp; done) | (simp; omega))])); rw [World.cell?_alloc_at _ _ _ _ (by simp)]; rfl)
            have n1 := Kep.all g1 (a := ⟨w.heap.size + 1 + 1 + 1, 1, none⟩) (v := .int .i32 ny) (by (repeat (first | rw [World.cell?_drew] | rw [World.cell?_alloc_past _ _ _ (by first | (simp; done) | (simp; omega))])); rw [World.cell?_alloc_at _ _ _ _ (by simp)]; rfl)
            have gg := kep_next (kep_more (kep_more (kep_more (kep_more (Kep.refl _ _) _) _) _) _) g1
            have zp_w1 : w.heap.size < w1.heap.size := World.block_lt_of_cell? _ _ p0
            have zq_w1 : w.heap.size + 1 < w1.heap.size := World.block_lt_of_cell? _ _ q0
            have zm_w1 : w.heap.size + 1 + 1 < w1.heap.size := World.block_lt_of_cell? _ _ m0
            have zn_w1 : w.heap.size + 1 + 1 + 1 < w1.heap.size := World.block_lt_of_cell? _ _ n0))
    | ((with_reducible refine (RR.out _).mono ?_); rintro e w2 ⟨rfl, g2⟩
       replace p0 := Kep.all g2 (a := ⟨w.heap.size, 0, none⟩) (v := .int .i32 px) p0
       replace p1 := Kep.all g2 (a := ⟨w.heap.size, 1, none⟩) (v := .int .i32 py) p1
       replace q0 := Kep.all g2 (a := ⟨w.heap.size + 1, 0, none⟩) (v := .int .i32 qx) q0
       replace q1 := Kep.all g2 (a := ⟨w.heap.size + 1, 1, none⟩) (v := .int .i32 qy) q1
       replace m0 := Kep.all g2 (a := ⟨w.heap.size + 1 + 1, 0, none⟩) (v := .int .i32 mx) m0
       replace m1 := Kep.all g2 (a := ⟨w.heap.size + 1 + 1, 1, none⟩) (v := .int .i32 my) m1
       replace n0 := Kep.all g2 (a := ⟨w.heap.size + 1 + 1 + 1, 0, none⟩) (v := .int .i32 nx) n0
       replace n1 := Kep.all g2 (a := ⟨w.heap.size + 1 + 1 + 1, 1, none⟩) (v := .int .i32 ny) n1
       replace gg := kep_next gg g2
       have zp_w2 : w.heap.size < w2.heap.size := World.block_lt_of_cell? _ _ p0
       have zq_w2 : w.heap.size + 1 < w2.heap.size := World.block_lt_of_cell? _ _ q0
       have zm_w2 : w.heap.size + 1 + 1 < w2.heap.size := World.block_lt_of_cell? _ _ m0
       have zn_w2 : w.heap.size + 1 + 1 + 1 < w2.heap.size := World.block_lt_of_cell? _ _ n0))
  go_ret
  exact ⟨rfl, gg⟩
set_option maxRecDepth 100000 in
set_option maxHeartbeats 4000000 in
theorem sll_main (AW : Hid SAwake) (px py qx qy mx my nx ny xa xb xc xd t r0 r1 r2 r3 : Int) (z1 z2 z3 z4 : Bool) (RR : Hid (RR4 px py qx qy mx my nx ny true)) (C1 : Hid (SCh px py qx qy mx my nx ny xa xb xc xd)) (C2 : Hid (SDs px py qx qy mx my nx ny t)) (R2 : Hid (RD2 xa xb xc xd t))
    (D0 : Hid (RDs mx my nx ny px py r0)) (D1 : Hid (RDs mx my nx ny qx qy r1)) (D2 : Hid (RDs px py qx qy mx my r2)) (D3 : Hid (RDs px py qx qy nx ny r3))
    (d0 : decide (r0 < t) = false) (d1 : decide (r1 < t) = false) (d2 : decide (r2 < t) = false) (d3 : decide (r3 < t) = false)
    (h1 : decide (xa = px ∧ xb = py) = z1) (h2 : decide (xa = qx ∧ xb = qy) = z2) (h3 : decide (xc = mx ∧ xd = my) = z3) (h4 : decide (xc = nx ∧ xd = ny) = z4) (hz : (z1 || z2 || z3 || z4) = true) (w : World) : Calls Try.prog 4 #[.agg #[.int .i32 px, .int .i32 py], .agg #[.int .i32 qx, .int .i32 qy], .agg #[.int .i32 mx, .int .i32 my], .agg #[.int .i32 nx, .int .i32 ny]] w fun e w' => e = .returned (.bool true) ∧ Kep w.heap.size w w' := by
  have v1 := fun w => vec_cmp xa xb px py z1 h1 w
  have v2 := fun w => vec_cmp xa xb qx qy z2 h2 w
  have v3 := fun w => vec_cmp xc xd mx my z3 h3 w
  have v4 := fun w => vec_cmp xc xd nx ny z4 h4 w
  have et : (t == t) = true := by simp
  clear h1 h2 h3 h4
  cases z1
  rotate_left
  · clear hz v2 v3 v4
    go_enter Try.func4, Try.ntmps4
    go_wp2_with (first
      | ((with_reducible refine (AW.out _).mono ?_); rintro e w1 ⟨rfl, g1⟩
         have p0 := Kep.all g1 (a := ⟨w.heap.size, 0, none⟩) (v := .int .i32 px) (by (repeat (first | rw [World.cell?_drew] | rw [World.cell?_alloc_past _ _ _ (by first | (simp; done) | (simp; omega))])); rw [World.cell?_alloc_at _ _ _ _ (by simp)]; rfl)
         have p1 := Kep.all g1 (a := ⟨w.heap.size, 1, none⟩) (v := .int .i32 py) (by (repeat (first | rw [World.cell?_drew] | rw [World.cell?_alloc_past _ _ _ (by first | (simp; done) | (simp; omega))])); rw [World.cell?_alloc_at _ _ _ _ (by simp)]; rfl)
         have q0 := Kep.all g1 (a := ⟨w.heap.size + 1, 0, none⟩) (v := .int .i32 qx) (by (repeat (first | rw [World.cell?_drew] | rw [World.cell?_alloc_past _ _ _ (by first | (simp; done) | (simp; omega))])); rw [World.cell?_alloc_at _ _ _ _ (by simp)]; rfl)
         have q1 := Kep.all g1 (a := ⟨w.heap.size + 1, 1, none⟩) (v := .int .i32 qy) (by (repeat (first | rw [World.cell?_drew] | rw [World.cell?_alloc_past _ _ _ (by first | (simp; done) | (simp; omega))])); rw [World.cell?_alloc_at _ _ _ _ (by simp)]; rfl)
         have m0 := Kep.all g1 (a := ⟨w.heap.size + 1 + 1, 0, none⟩) (v := .int .i32 mx) (by (repeat (first | rw [World.cell?_drew] | rw [World.cell?_alloc_past _ _ _ (by first | (simp; done) | (simp; omega))])); rw [World.cell?_alloc_at _ _ _ _ (by simp)]; rfl)
         have m1 := Kep.all g1 (a := ⟨w.heap.size + 1 + 1, 1, none⟩) (v := .int .i32 my) (by (repeat (first | rw [World.cell?_drew] | rw [World.cell?_alloc_past _ _ _ (by first | (simp; done) | (simp; omega))])); rw [World.cell?_alloc_at _ _ _ _ (by simp)]; rfl)
         have n0 := Kep.all g1 (a := ⟨w.heap.size + 1 + 1 + 1, 0, none⟩) (v := .int .i32 nx) (by (repeat (first | rw [World.cell?_drew] | rw [World.cell?_alloc_past _ _ _ (by first | (simp; done) | (simp; omega))])); rw [World.cell?_alloc_at _ _ _ _ (by simp)]; rfl)
         have n1 := Kep.all g1 (a := ⟨w.heap.size + 1 + 1 + 1, 1, none⟩) (v := .int .i32 ny) (by (repeat (first | rw [World.cell?_drew] | rw [World.cell?_alloc_past _ _ _ (by first | (simp; done) | (simp; omega))])); rw [World.cell?_alloc_at _ _ _ _ (by simp)]; rfl)
         have gg := kep_next (kep_more (kep_more (kep_more (kep_more (Kep.refl _ _) _) _) _) _) g1
         have zp_w1 : w.heap.size < w1.heap.size := World.block_lt_of_cell? _ _ p0
         have zq_w1 : w.heap.size + 1 < w1.heap.size := World.block_lt_of_cell? _ _ q0
         have zm_w1 : w.heap.size + 1 + 1 < w1.heap.size := World.block_lt_of_cell? _ _ m0
         have zn_w1 : w.heap.size + 1 + 1 + 1 < w1.heap.size := World.block_lt_of_cell? _ _ n0)
      | ((with_reducible refine (RR.out _).mono ?_); rintro e w2 ⟨rfl, g2⟩
         replace p0 := Kep.all g2 (a := ⟨w.heap.size, 0, none⟩) (v := .int .i32 px) p0
         replace p1 := Kep.all g2 (a := ⟨w.heap.size, 1, none⟩) (v := .int .i32 py) p1
         replace q0 := Kep.all g2 (a := ⟨w.heap.size + 1, 0, none⟩) (v := .int .i32 qx) q0
         replace q1 := Kep.all g2 (a := ⟨w.heap.size + 1, 1, none⟩) (v := .int .i32 qy) q1
         replace m0 := Kep.all g2 (a := ⟨w.heap.size + 1 + 1, 0, none⟩) (v := .int .i32 mx) m0
         replace m1 := Kep.all g2 (a := ⟨w.heap.size + 1 + 1, 1, none⟩) (v := .int .i32 my) m1
         replace n0 := Kep.all g2 (a := ⟨w.heap.size + 1 + 1 + 1, 0, none⟩) (v := .int .i32 nx) n0
         replace n1 := Kep.all g2 (a := ⟨w.heap.size + 1 + 1 + 1, 1, none⟩) (v := .int .i32 ny) n1
         replace gg := kep_next gg g2
         have zp_w2 : w.heap.size < w2.heap.size := World.block_lt_of_cell? _ _ p0
         have zq_w2 : w.heap.size + 1 < w2.heap.size := World.block_lt_of_cell? _ _ q0
         have zm_w2 : w.heap.size + 1 + 1 < w2.heap.size := World.block_lt_of_cell? _ _ m0
         have zn_w2 : w.heap.size + 1 + 1 + 1 < w2.heap.size := World.block_lt_of_cell? _ _ n0)
      | ((with_reducible refine (C2.out _).mono ?_); rintro e w3 ⟨rfl, g3⟩
         replace p0 := Kep.all g3 (a := ⟨w.heap.size, 0, none⟩) (v := .int .i32 px) p0
         replace p1 := Kep.all g3 (a := ⟨w.heap.size, 1, none⟩) (v := .int .i32 py) p1
         replace q0 := Kep.all g3 (a := ⟨w.heap.size + 1, 0, none⟩) (v := .int .i32 qx) q0
         replace q1 := Kep.all g3 (a := ⟨w.heap.size + 1, 1, none⟩) (v := .int .i32 qy) q1
         replace m0 := Kep.all g3 (a := ⟨w.heap.size + 1 + 1, 0, none⟩) (v := .int .i32 mx) m0
         replace m1 := Kep.all g3 (a := ⟨w.heap.size + 1 + 1, 1, none⟩) (v := .int .i32 my) m1
         replace n0 := Kep.all g3 (a := ⟨w.heap.size + 1 + 1 + 1, 0, none⟩) (v := .int .i32 nx) n0
         replace n1 := Kep.all g3 (a := ⟨w.heap.size + 1 + 1 + 1, 1, none⟩) (v := .int .i32 ny) n1
         replace gg := kep_next gg g3
         have zp_w3 : w.heap.size < w3.heap.size := World.block_lt_of_cell? _ _ p0
         have zq_w3 : w.heap.size + 1 < w3.heap.size := World.block_lt_of_cell? _ _ q0
         have zm_w3 : w.heap.size + 1 + 1 < w3.heap.size := World.block_lt_of_cell? _ _ m0
         have zn_w3 : w.heap.size + 1 + 1 + 1 < w3.heap.size := World.block_lt_of_cell? _ _ n0)
      | ((with_reducible refine (C1.out _).mono ?_); rintro e w4 ⟨rfl, g4⟩
         replace p0 := Kep.all g4 (a := ⟨w.heap.size, 0, none⟩) (v := .int .i32 px) p0
         replace p1 := Kep.all g4 (a := ⟨w.heap.size, 1, none⟩) (v := .int .i32 py) p1
         replace q0 := Kep.all g4 (a := ⟨w.heap.size + 1, 0, none⟩) (v := .int .i32 qx) q0
         replace q1 := Kep.all g4 (a := ⟨w.heap.size + 1, 1, none⟩) (v := .int .i32 qy) q1
         replace m0 := Kep.all g4 (a := ⟨w.heap.size + 1 + 1, 0, none⟩) (v := .int .i32 mx) m0
         replace m1 := Kep.all g4 (a := ⟨w.heap.size + 1 + 1, 1, none⟩) (v := .int .i32 my) m1
         replace n0 := Kep.all g4 (a := ⟨w.heap.size + 1 + 1 + 1, 0, none⟩) (v := .int .i32 nx) n0
         replace n1 := Kep.all g4 (a := ⟨w.heap.size + 1 + 1 + 1, 1, none⟩) (v := .int .i32 ny) n1
         replace gg := kep_next gg g4
         have zp_w4 : w.heap.size < w4.heap.size := World.block_lt_of_cell? _ _ p0
         have zq_w4 : w.heap.size + 1 < w4.heap.size := World.block_lt_of_cell? _ _ q0
         have zm_w4 : w.heap.size + 1 + 1 < w4.heap.size := World.block_lt_of_cell? _ _ m0
         have zn_w4 : w.heap.size + 1 + 1 + 1 < w4.heap.size := World.block_lt_of_cell? _ _ n0)
      | ((with_reducible refine (D0.out _).mono ?_); rintro e w5 ⟨rfl, g5⟩
         replace p0 := Kep.all g5 (a := ⟨w.heap.size, 0, none⟩) (v := .int .i32 px) (Kep.all (kep_more (kep_more (Kep.refl _ _) _) _) p0)
         replace p1 := Kep.all g5 (a := ⟨w.heap.size, 1, none⟩) (v := .int .i32 py) (Kep.all (kep_more (kep_more (Kep.refl _ _) _) _) p1)
         replace q0 := Kep.all g5 (a := ⟨w.heap.size + 1, 0, none⟩) (v := .int .i32 qx) (Kep.all (kep_more (kep_more (Kep.refl _ _) _) _) q0)
         replace q1 := Kep.all g5 (a := ⟨w.heap.size + 1, 1, none⟩) (v := .int .i32 qy) (Kep.all (kep_more (kep_more (Kep.refl _ _) _) _) q1)
         replace m0 := Kep.all g5 (a := ⟨w.heap.size + 1 + 1, 0, none⟩) (v := .int .i32 mx) (Kep.all (kep_more (kep_more (Kep.refl _ _) _) _) m0)
         replace m1 := Kep.all g5 (a := ⟨w.heap.size + 1 + 1, 1, none⟩) (v := .int .i32 my) (Kep.all (kep_more (kep_more (Kep.refl _ _) _) _) m1)
         replace n0 := Kep.all g5 (a := ⟨w.heap.size + 1 + 1 + 1, 0, none⟩) (v := .int .i32 nx) (Kep.all (kep_more (kep_more (Kep.refl _ _) _) _) n0)
         replace n1 := Kep.all g5 (a := ⟨w.heap.size + 1 + 1 + 1, 1, none⟩) (v := .int .i32 ny) (Kep.all (kep_more (kep_more (Kep.refl _ _) _) _) n1)
         have a0 := Kep.all g5 (a := ⟨w4.heap.size, 0, none⟩) (v := .int .i32 xa) (by (repeat (first | rw [World.cell?_drew] | rw [World.cell?_alloc_past _ _ _ (by first | (simp; done) | (simp; omega))])); rw [World.cell?_alloc_at _ _ _ _ (by simp)]; rfl)
         have a1 := Kep.all g5 (a := ⟨w4.heap.size, 1, none⟩) (v := .int .i32 xb) (by (repeat (first | rw [World.cell?_drew] | rw [World.cell?_alloc_past _ _ _ (by first | (simp; done) | (simp; omega))])); rw [World.cell?_alloc_at _ _ _ _ (by simp)]; rfl)
         have b0 := Kep.all g5 (a := ⟨w4.heap.size + 1, 0, none⟩) (v := .int .i32 xc) (by (repeat (first | rw [World.cell?_drew] | rw [World.cell?_alloc_past _ _ _ (by first | (simp; done) | (simp; omega))])); rw [World.cell?_alloc_at _ _ _ _ (by simp)]; rfl)
         have b1 := Kep.all g5 (a := ⟨w4.heap.size + 1, 1, none⟩) (v := .int .i32 xd) (by (repeat (first | rw [World.cell?_drew] | rw [World.cell?_alloc_past _ _ _ (by first | (simp; done) | (simp; omega))])); rw [World.cell?_alloc_at _ _ _ _ (by simp)]; rfl)
         replace gg := kep_next (kep_more (kep_more gg _) _) g5
         have zp_w5 : w.heap.size < w5.heap.size := World.block_lt_of_cell? _ _ p0
         have zq_w5 : w.heap.size + 1 < w5.heap.size := World.block_lt_of_cell? _ _ q0
         have zm_w5 : w.heap.size + 1 + 1 < w5.heap.size := World.block_lt_of_cell? _ _ m0
         have zn_w5 : w.heap.size + 1 + 1 + 1 < w5.heap.size := World.block_lt_of_cell? _ _ n0
         have za_w5 : w4.heap.size < w5.heap.size := World.block_lt_of_cell? _ _ a0
         have zb_w5 : w4.heap.size + 1 < w5.heap.size := World.block_lt_of_cell? _ _ b0)
      | ((with_reducible refine (D1.out _).mono ?_); rintro e w6 ⟨rfl, g6⟩
         replace p0 := Kep.all g6 (a := ⟨w.heap.size, 0, none⟩) (v := .int .i32 px) p0
         replace p1 := Kep.all g6 (a := ⟨w.heap.size, 1, none⟩) (v := .int .i32 py) p1
         replace q0 := Kep.all g6 (a := ⟨w.heap.size + 1, 0, none⟩) (v := .int .i32 qx) q0
         replace q1 := Kep.all g6 (a := ⟨w.heap.size + 1, 1, none⟩) (v := .int .i32 qy) q1
         replace m0 := Kep.all g6 (a := ⟨w.heap.size + 1 + 1, 0, none⟩) (v := .int .i32 mx) m0
         replace m1 := Kep.all g6 (a := ⟨w.heap.size + 1 + 1, 1, none⟩) (v := .int .i32 my) m1
         replace n0 := Kep.all g6 (a := ⟨w.heap.size + 1 + 1 + 1, 0, none⟩) (v := .int .i32 nx) n0
         replace n1 := Kep.all g6 (a := ⟨w.heap.size + 1 + 1 + 1, 1, none⟩) (v := .int .i32 ny) n1
         replace a0 := Kep.all g6 (a := ⟨w4.heap.size, 0, none⟩) (v := .int .i32 xa) a0
         replace a1 := Kep.all g6 (a := ⟨w4.heap.size, 1, none⟩) (v := .int .i32 xb) a1
         replace b0 := Kep.all g6 (a := ⟨w4.heap.size + 1, 0, none⟩) (v := .int .i32 xc) b0
         replace b1 := Kep.all g6 (a := ⟨w4.heap.size + 1, 1, none⟩) (v := .int .i32 xd) b1
         replace gg := kep_next gg g6
         have zp_w6 : w.heap.size < w6.heap.size := World.block_lt_of_cell? _ _ p0
         have zq_w6 : w.heap.size + 1 < w6.heap.size := World.block_lt_of_cell? _ _ q0
         have zm_w6 : w.heap.size + 1 + 1 < w6.heap.size := World.block_lt_of_cell? _ _ m0
         have zn_w6 : w.heap.size + 1 + 1 + 1 < w6.heap.size := World.block_lt_of_cell? _ _ n0
         have za_w6 : w4.heap.size < w6.heap.size := World.block_lt_of_cell? _ _ a0
         have zb_w6 : w4.heap.size + 1 < w6.heap.size := World.block_lt_of_cell? _ _ b0)
      | ((with_reducible refine (D2.out _).mono ?_); rintro e w7 ⟨rfl, g7⟩
         replace p0 := Kep.all g7 (a := ⟨w.heap.size, 0, none⟩) (v := .int .i32 px) p0
         replace p1 := Kep.all g7 (a := ⟨w.heap.size, 1, none⟩) (v := .int .i32 py) p1
         replace q0 := Kep.all g7 (a := ⟨w.heap.size + 1, 0, none⟩) (v := .int .i32 qx) q0
         replace q1 := Kep.all g7 (a := ⟨w.heap.size + 1, 1, none⟩) (v := .int .i32 qy) q1
         replace m0 := Kep.all g7 (a := ⟨w.heap.size + 1 + 1, 0, none⟩) (v := .int .i32 mx) m0
         replace m1 := Kep.all g7 (a := ⟨w.heap.size + 1 + 1, 1, none⟩) (v := .int .i32 my) m1
         replace n0 := Kep.all g7 (a := ⟨w.heap.size + 1 + 1 + 1, 0, none⟩) (v := .int .i32 nx) n0
         replace n1 := Kep.all g7 (a := ⟨w.heap.size + 1 + 1 + 1, 1, none⟩) (v := .int .i32 ny) n1
         replace a0 := Kep.all g7 (a := ⟨w4.heap.size, 0, none⟩) (v := .int .i32 xa) a0
         replace a1 := Kep.all g7 (a := ⟨w4.heap.size, 1, none⟩) (v := .int .i32 xb) a1
         replace b0 := Kep.all g7 (a := ⟨w4.heap.size + 1, 0, none⟩) (v := .int .i32 xc) b0
         replace b1 := Kep.all g7 (a := ⟨w4.heap.size + 1, 1, none⟩) (v := .int .i32 xd) b1
         replace gg := kep_next gg g7
         have zp_w7 : w.heap.size < w7.heap.size := World.block_lt_of_cell? _ _ p0
         have zq_w7 : w.heap.size + 1 < w7.heap.size := World.block_lt_of_cell? _ _ q0
         have zm_w7 : w.heap.size + 1 + 1 < w7.heap.size := World.block_lt_of_cell? _ _ m0
         have zn_w7 : w.heap.size + 1 + 1 + 1 < w7.heap.size := World.block_lt_of_cell? _ _ n0
         have za_w7 : w4.heap.size < w7.heap.size := World.block_lt_of_cell? _ _ a0
         have zb_w7 : w4.heap.size + 1 < w7.heap.size := World.block_lt_of_cell? _ _ b0)
      | ((with_reducible refine (D3.out _).mono ?_); rintro e w8 ⟨rfl, g8⟩
         replace p0 := Kep.all g8 (a := ⟨w.heap.size, 0, none⟩) (v := .int .i32 px) p0
         replace p1 := Kep.all g8 (a := ⟨w.heap.size, 1, none⟩) (v := .int .i32 py) p1
         replace q0 := Kep.all g8 (a := ⟨w.heap.size + 1, 0, none⟩) (v := .int .i32 qx) q0
         replace q1 := Kep.all g8 (a := ⟨w.heap.size + 1, 1, none⟩) (v := .int .i32 qy) q1
         replace m0 := Kep.all g8 (a := ⟨w.heap.size + 1 + 1, 0, none⟩) (v := .int .i32 mx) m0
         replace m1 := Kep.all g8 (a := ⟨w.heap.size + 1 + 1, 1, none⟩) (v := .int .i32 my) m1
         replace n0 := Kep.all g8 (a := ⟨w.heap.size + 1 + 1 + 1, 0, none⟩) (v := .int .i32 nx) n0
         replace n1 := Kep.all g8 (a := ⟨w.heap.size + 1 + 1 + 1, 1, none⟩) (v := .int .i32 ny) n1
         replace a0 := Kep.all g8 (a := ⟨w4.heap.size, 0, none⟩) (v := .int .i32 xa) a0
         replace a1 := Kep.all g8 (a := ⟨w4.heap.size, 1, none⟩) (v := .int .i32 xb) a1
         replace b0 := Kep.all g8 (a := ⟨w4.heap.size + 1, 0, none⟩) (v := .int .i32 xc) b0
         replace b1 := Kep.all g8 (a := ⟨w4.heap.size + 1, 1, none⟩) (v := .int .i32 xd) b1
         replace gg := kep_next gg g8
         have zp_w8 : w.heap.size < w8.heap.size := World.block_lt_of_cell? _ _ p0
         have zq_w8 : w.heap.size + 1 < w8.heap.size := World.block_lt_of_cell? _ _ q0
         have zm_w8 : w.heap.size + 1 + 1 < w8.heap.size := World.block_lt_of_cell? _ _ m0
         have zn_w8 : w.heap.size + 1 + 1 + 1 < w8.heap.size := World.block_lt_of_cell? _ _ n0
         have za_w8 : w4.heap.size < w8.heap.size := World.block_lt_of_cell? _ _ a0
         have zb_w8 : w4.heap.size + 1 < w8.heap.size := World.block_lt_of_cell? _ _ b0)
      | ((with_reducible refine (R2.out _).mono ?_); rintro e w9 ⟨rfl, g9⟩
         replace p0 := Kep.all g9 (a := ⟨w.heap.size, 0, none⟩) (v := .int .i32 px) p0
         replace p1 := Kep.all g9 (a := ⟨w.heap.size, 1, none⟩) (v := .int .i32 py) p1
         replace q0 := Kep.all g9 (a := ⟨w.heap.size + 1, 0, none⟩) (v := .int .i32 qx) q0
         replace q1 := Kep.all g9 (a := ⟨w.heap.size + 1, 1, none⟩) (v := .int .i32 qy) q1
         replace m0 := Kep.all g9 (a := ⟨w.heap.size + 1 + 1, 0, none⟩) (v := .int .i32 mx) m0
         replace m1 := Kep.all g9 (a := ⟨w.heap.size + 1 + 1, 1, none⟩) (v := .int .i32 my) m1
         replace n0 := Kep.all g9 (a := ⟨w.heap.size + 1 + 1 + 1, 0, none⟩) (v := .int .i32 nx) n0
         replace n1 := Kep.all g9 (a := ⟨w.heap.size + 1 + 1 + 1, 1, none⟩) (v := .int .i32 ny) n1
         replace a0 := Kep.all g9 (a := ⟨w4.heap.size, 0, none⟩) (v := .int .i32 xa) a0
         replace a1 := Kep.all g9 (a := ⟨w4.heap.size, 1, none⟩) (v := .int .i32 xb) a1
         replace b0 := Kep.all g9 (a := ⟨w4.heap.size + 1, 0, none⟩) (v := .int .i32 xc) b0
         replace b1 := Kep.all g9 (a := ⟨w4.heap.size + 1, 1, none⟩) (v := .int .i32 xd) b1
         replace gg := kep_next gg g9
         have zp_w9 : w.heap.size < w9.heap.size := World.block_lt_of_cell? _ _ p0
         have zq_w9 : w.heap.size + 1 < w9.heap.size := World.block_lt_of_cell? _ _ q0
         have zm_w9 : w.heap.size + 1 + 1 < w9.heap.size := World.block_lt_of_cell? _ _ m0
         have zn_w9 : w.heap.size + 1 + 1 + 1 < w9.heap.size := World.block_lt_of_cell? _ _ n0
         have za_w9 : w4.heap.size < w9.heap.size := World.block_lt_of_cell? _ _ a0
         have zb_w9 : w4.heap.size + 1 < w9.heap.size := World.block_lt_of_cell? _ _ b0))
    go_ret
    exact ⟨rfl, gg⟩
  cases z2
  rotate_left
  · clear hz v3 v4
    go_enter Try.func4, Try.ntmps4
    go_wp2_with (first
      | ((with_reducible refine (AW.out _).mono ?_); rintro e w1 ⟨rfl, g1⟩
         have p0 := Kep.all g1 (a := ⟨w.heap.size, 0, none⟩) (v := .int .i32 px) (by (repeat (first | rw [World.cell?_drew] | rw [World.cell?_alloc_past _ _ _ (by first | (simp; done) | (simp; omega))])); rw [World.cell?_alloc_at _ _ _ _ (by simp)]; rfl)
         have p1 := Kep.all g1 (a := ⟨w.heap.size, 1, none⟩) (v := .int .i32 py) (by (repeat (first | rw [World.cell?_drew] | rw [World.cell?_alloc_past _ _ _ (by first | (simp; done) | (simp; omega))])); rw [World.cell?_alloc_at _ _ _ _ (by simp)]; rfl)
         have q0 := Kep.all g1 (a := ⟨w.heap.size + 1, 0, none⟩) (v := .int .i32 qx) (by (repeat (first | rw [World.cell?_drew] | rw [World.cell?_alloc_past _ _ _ (by first | (simp; done) | (simp; omega))])); rw [World.cell?_alloc_at _ _ _ _ (by simp)]; rfl)
         have q1 := Kep.all g1 (a := ⟨w.heap.size + 1, 1, none⟩) (v := .int .i32 qy) (by (repeat (first | rw [World.cell?_drew] | rw [World.cell?_alloc_past _ _ _ (by first | (simp; done) | (simp; omega))])); rw [World.cell?_alloc_at _ _ _ _ (by simp)]; rfl)
         have m0 := Kep.all g1 (a := ⟨w.heap.size + 1 + 1, 0, none⟩) (v := .int .i32 mx) (by (repeat (first | rw [World.cell?_drew] | rw [World.cell?_alloc_past _ _ _ (by first | (simp; done) | (simp; omega))])); rw [World.cell?_alloc_at _ _ _ _ (by simp)]; rfl)
         have m1 := Kep.all g1 (a := ⟨w.heap.size + 1 + 1, 1, none⟩) (v := .int .i32 my) (by (repeat (first | rw [World.cell?_drew] | rw [World.cell?_alloc_past _ _ _ (by first | (simp; done) | (simp; omega))])); rw [World.cell?_alloc_at _ _ _ _ (by simp)]; rfl)
         have n0 := Kep.all g1 (a := ⟨w.heap.size + 1 + 1 + 1, 0, none⟩) (v := .int .i32 nx) (by (repeat (first | rw [World.cell?_drew] | rw [World.cell?_alloc_past _ _ _ (by first | (simp; done) | (simp; omega))])); rw [World.cell?_alloc_at _ _ _ _ (by simp)]; rfl)
         have n1 := Kep.all g1 (a := ⟨w.heap.size + 1 + 1 + 1, 1, none⟩) (v := .int .i32 ny) (by (repeat (first | rw [World.cell?_drew] | rw [World.cell?_alloc_past _ _ _ (by first | (simp; done) | (simp; omega))])); rw [World.cell?_alloc_at _ _ _ _ (by simp)]; rfl)
         have gg := kep_next (kep_more (kep_more (kep_more (kep_more (Kep.refl _ _) _) _) _) _) g1
         have zp_w1 : w.heap.size < w1.heap.size := World.block_lt_of_cell? _ _ p0
         have zq_w1 : w.heap.size + 1 < w1.heap.size := World.block_lt_of_cell? _ _ q0
         have zm_w1 : w.heap.size + 1 + 1 < w1.heap.size := World.block_lt_of_cell? _ _ m0
         have zn_w1 : w.heap.size + 1 + 1 + 1 < w1.heap.size := World.block_lt_of_cell? _ _ n0)
      | ((with_reducible refine (RR.out _).mono ?_); rintro e w2 ⟨rfl, g2⟩
         replace p0 := Kep.all g2 (a := ⟨w.heap.size, 0, none⟩) (v := .int .i32 px) p0
         replace p1 := Kep.all g2 (a := ⟨w.heap.size, 1, none⟩) (v := .int .i32 py) p1
         replace q0 := Kep.all g2 (a := ⟨w.heap.size + 1, 0, none⟩) (v := .int .i32 qx) q0
         replace q1 := Kep.all g2 (a := ⟨w.heap.size + 1, 1, none⟩) (v := .int .i32 qy) q1
         replace m0 := Kep.all g2 (a := ⟨w.heap.size + 1 + 1, 0, none⟩) (v := .int .i32 mx) m0
         replace m1 := Kep.all g2 (a := ⟨w.heap.size + 1 + 1, 1, none⟩) (v := .int .i32 my) m1
         replace n0 := Kep.all g2 (a := ⟨w.heap.size + 1 + 1 + 1, 0, none⟩) (v := .int .i32 nx) n0
         replace n1 := Kep.all g2 (a := ⟨w.heap.size + 1 + 1 + 1, 1, none⟩) (v := .int .i32 ny) n1
         replace gg := kep_next gg g2
         have zp_w2 : w.heap.size < w2.heap.size := World.block_lt_of_cell? _ _ p0
         have zq_w2 : w.heap.size + 1 < w2.heap.size := World.block_lt_of_cell? _ _ q0
         have zm_w2 : w.heap.size + 1 + 1 < w2.heap.size := World.block_lt_of_cell? _ _ m0
         have zn_w2 : w.heap.size + 1 + 1 + 1 < w2.heap.size := World.block_lt_of_cell? _ _ n0)
      | ((with_reducible refine (C2.out _).mono ?_); rintro e w3 ⟨rfl, g3⟩
         replace p0 := Kep.all g3 (a := ⟨w.heap.size, 0, none⟩) (v := .int .i32 px) p0
         replace p1 := Kep.all g3 (a := ⟨w.heap.size, 1, none⟩) (v := .int .i32 py) p1
         replace q0 := Kep.all g3 (a := ⟨w.heap.size + 1, 0, none⟩) (v := .int .i32 qx) q0
         replace q1 := Kep.all g3 (a := ⟨w.heap.size + 1, 1, none⟩) (v := .int .i32 qy) q1
         replace m0 := Kep.all g3 (a := ⟨w.heap.size + 1 + 1, 0, none⟩) (v := .int .i32 mx) m0
         replace m1 := Kep.all g3 (a := ⟨w.heap.size + 1 + 1, 1, none⟩) (v := .int .i32 my) m1
         replace n0 := Kep.all g3 (a := ⟨w.heap.size + 1 + 1 + 1, 0, none⟩) (v := .int .i32 nx) n0
         replace n1 := Kep.all g3 (a := ⟨w.heap.size + 1 + 1 + 1, 1, none⟩) (v := .int .i32 ny) n1
         replace gg := kep_next gg g3
         have zp_w3 : w.heap.size < w3.heap.size := World.block_lt_of_cell? _ _ p0
         have zq_w3 : w.heap.size + 1 < w3.heap.size := World.block_lt_of_cell? _ _ q0
         have zm_w3 : w.heap.size + 1 + 1 < w3.heap.size := World.block_lt_of_cell? _ _ m0
         have zn_w3 : w.heap.size + 1 + 1 + 1 < w3.heap.size := World.block_lt_of_cell? _ _ n0)
      | ((with_reducible refine (C1.out _).mono ?_); rintro e w4 ⟨rfl, g4⟩
         replace p0 := Kep.all g4 (a := ⟨w.heap.size, 0, none⟩) (v := .int .i32 px) p0
         replace p1 := Kep.all g4 (a := ⟨w.heap.size, 1, none⟩) (v := .int .i32 py) p1
         replace q0 := Kep.all g4 (a := ⟨w.heap.size + 1, 0, none⟩) (v := .int .i32 qx) q0
         replace q1 := Kep.all g4 (a := ⟨w.heap.size + 1, 1, none⟩) (v := .int .i32 qy) q1
         replace m0 := Kep.all g4 (a := ⟨w.heap.size + 1 + 1, 0, none⟩) (v := .int .i32 mx) m0
         replace m1 := Kep.all g4 (a := ⟨w.heap.size + 1 + 1, 1, none⟩) (v := .int .i32 my) m1
         replace n0 := Kep.all g4 (a := ⟨w.heap.size + 1 + 1 + 1, 0, none⟩) (v := .int .i32 nx) n0
         replace n1 := Kep.all g4 (a := ⟨w.heap.size + 1 + 1 + 1, 1, none⟩) (v := .int .i32 ny) n1
         replace gg := kep_next gg g4
         have zp_w4 : w.heap.size < w4.heap.size := World.block_lt_of_cell? _ _ p0
         have zq_w4 : w.heap.size + 1 < w4.heap.size := World.block_lt_of_cell? _ _ q0
         have zm_w4 : w.heap.size + 1 + 1 < w4.heap.size := World.block_lt_of_cell? _ _ m0
         have zn_w4 : w.heap.size + 1 + 1 + 1 < w4.heap.size := World.block_lt_of_cell? _ _ n0)
      | ((with_reducible refine (D0.out _).mono ?_); rintro e w5 ⟨rfl, g5⟩
         replace p0 := Kep.all g5 (a := ⟨w.heap.size, 0, none⟩) (v := .int .i32 px) (Kep.all (kep_more (kep_more (Kep.refl _ _) _) _) p0)
         replace p1 := Kep.all g5 (a := ⟨w.heap.size, 1, none⟩) (v := .int .i32 py) (Kep.all (kep_more (kep_more (Kep.refl _ _) _) _) p1)
         replace q0 := Kep.all g5 (a := ⟨w.heap.size + 1, 0, none⟩) (v := .int .i32 qx) (Kep.all (kep_more (kep_more (Kep.refl _ _) _) _) q0)
         replace q1 := Kep.all g5 (a := ⟨w.heap.size + 1, 1, none⟩) (v := .int .i32 qy) (Kep.all (kep_more (kep_more (Kep.refl _ _) _) _) q1)
         replace m0 := Kep.all g5 (a := ⟨w.heap.size + 1 + 1, 0, none⟩) (v := .int .i32 mx) (Kep.all (kep_more (kep_more (Kep.refl _ _) _) _) m0)
         replace m1 := Kep.all g5 (a := ⟨w.heap.size + 1 + 1, 1, none⟩) (v := .int .i32 my) (Kep.all (kep_more (kep_more (Kep.refl _ _) _) _) m1)
         replace n0 := Kep.all g5 (a := ⟨w.heap.size + 1 + 1 + 1, 0, none⟩) (v := .int .i32 nx) (Kep.all (kep_more (kep_more (Kep.refl _ _) _) _) n0)
         replace n1 := Kep.all g5 (a := ⟨w.heap.size + 1 + 1 + 1, 1, none⟩) (v := .int .i32 ny) (Kep.all (kep_more (kep_more (Kep.refl _ _) _) _) n1)
         have a0 := Kep.all g5 (a := ⟨w4.heap.size, 0, none⟩) (v := .int .i32 xa) (by (repeat (first | rw [World.cell?_drew] | rw [World.cell?_alloc_past _ _ _ (by first | (simp; done) | (simp; omega))])); rw [World.cell?_alloc_at _ _ _ _ (by simp)]; rfl)
         have a1 := Kep.all g5 (a := ⟨w4.heap.size, 1, none⟩) (v := .int .i32 xb) (by (repeat (first | rw [World.cell?_drew] | rw [World.cell?_alloc_past _ _ _ (by first | (simp; done) | (simp; omega))])); rw [World.cell?_alloc_at _ _ _ _ (by simp)]; rfl)
         have b0 := Kep.all g5 (a := ⟨w4.heap.size + 1, 0, none⟩) (v := .int .i32 xc) (by (repeat (first | rw [World.cell?_drew] | rw [World.cell?_alloc_past _ _ _ (by first | (simp; done) | (simp; omega))])); rw [World.cell?_alloc_at _ _ _ _ (by simp)]; rfl)
         have b1 := Kep.all g5 (a := ⟨w4.heap.size + 1, 1, none⟩) (v := .int .i32 xd) (by (repeat (first | rw [World.cell?_drew] | rw [World.cell?_alloc_past _ _ _ (by first | (simp; done) | (simp; omega))])); rw [World.cell?_alloc_at _ _ _ _ (by simp)]; rfl)
         replace gg := kep_next (kep_more (kep_more gg _) _) g5
         have zp_w5 : w.heap.size < w5.heap.size := World.block_lt_of_cell? _ _ p0
         have zq_w5 : w.heap.size + 1 < w5.heap.size := World.block_lt_of_cell? _ _ q0
         have zm_w5 : w.heap.size + 1 + 1 < w5.heap.size := World.block_lt_of_cell? _ _ m0
         have zn_w5 : w.heap.size + 1 + 1 + 1 < w5.heap.size := World.block_lt_of_cell? _ _ n0
         have za_w5 : w4.heap.size < w5.heap.size := World.block_lt_of_cell? _ _ a0
         have zb_w5 : w4.heap.size + 1 < w5.heap.size := World.block_lt_of_cell? _ _ b0)
      | ((with_reducible refine (D1.out _).mono ?_); rintro e w6 ⟨rfl, g6⟩
         replace p0 := Kep.all g6 (a := ⟨w.heap.size, 0, none⟩) (v := .int .i32 px) p0
         replace p1 := Kep.all g6 (a := ⟨w.heap.size, 1, none⟩) (v := .int .i32 py) p1
         replace q0 := Kep.all g6 (a := ⟨w.heap.size + 1, 0, none⟩) (v := .int .i32 qx) q0
         replace q1 := Kep.all g6 (a := ⟨w.heap.size + 1, 1, none⟩) (v := .int .i32 qy) q1
         replace m0 := Kep.all g6 (a := ⟨w.heap.size + 1 + 1, 0, none⟩) (v := .int .i32 mx) m0
         replace m1 := Kep.all g6 (a := ⟨w.heap.size + 1 + 1, 1, none⟩) (v := .int .i32 my) m1
         replace n0 := Kep.all g6 (a := ⟨w.heap.size + 1 + 1 + 1, 0, none⟩) (v := .int .i32 nx) n0
         replace n1 := Kep.all g6 (a := ⟨w.heap.size + 1 + 1 + 1, 1, none⟩) (v := .int .i32 ny) n1
         replace a0 := Kep.all g6 (a := ⟨w4.heap.size, 0, none⟩) (v := .int .i32 xa) a0
         replace a1 := Kep.all g6 (a := ⟨w4.heap.size, 1, none⟩) (v := .int .i32 xb) a1
         replace b0 := Kep.all g6 (a := ⟨w4.heap.size + 1, 0, none⟩) (v := .int .i32 xc) b0
         replace b1 := Kep.all g6 (a := ⟨w4.heap.size + 1, 1, none⟩) (v := .int .i32 xd) b1
         replace gg := kep_next gg g6
         have zp_w6 : w.heap.size < w6.heap.size := World.block_lt_of_cell? _ _ p0
         have zq_w6 : w.heap.size + 1 < w6.heap.size := World.block_lt_of_cell? _ _ q0
         have zm_w6 : w.heap.size + 1 + 1 < w6.heap.size := World.block_lt_of_cell? _ _ m0
         have zn_w6 : w.heap.size + 1 + 1 + 1 < w6.heap.size := World.block_lt_of_cell? _ _ n0
         have za_w6 : w4.heap.size < w6.heap.size := World.block_lt_of_cell? _ _ a0
         have zb_w6 : w4.heap.size + 1 < w6.heap.size := World.block_lt_of_cell? _ _ b0)
      | ((with_reducible refine (D2.out _).mono ?_); rintro e w7 ⟨rfl, g7⟩
         replace p0 := Kep.all g7 (a := ⟨w.heap.size, 0, none⟩) (v := .int .i32 px) p0
         replace p1 := Kep.all g7 (a := ⟨w.heap.size, 1, none⟩) (v := .int .i32 py) p1
         replace q0 := Kep.all g7 (a := ⟨w.heap.size + 1, 0, none⟩) (v := .int .i32 qx) q0
         replace q1 := Kep.all g7 (a := ⟨w.heap.size + 1, 1, none⟩) (v := .int .i32 qy) q1
         replace m0 := Kep.all g7 (a := ⟨w.heap.size + 1 + 1, 0, none⟩) (v := .int .i32 mx) m0
         replace m1 := Kep.all g7 (a := ⟨w.heap.size + 1 + 1, 1, none⟩) (v := .int .i32 my) m1
         replace n0 := Kep.all g7 (a := ⟨w.heap.size + 1 + 1 + 1, 0, none⟩) (v := .int .i32 nx) n0
         replace n1 := Kep.all g7 (a := ⟨w.heap.size + 1 + 1 + 1, 1, none⟩) (v := .int .i32 ny) n1
         replace a0 := Kep.all g7 (a := ⟨w4.heap.size, 0, none⟩) (v := .int .i32 xa) a0
         replace a1 := Kep.all g7 (a := ⟨w4.heap.size, 1, none⟩) (v := .int .i32 xb) a1
         replace b0 := Kep.all g7 (a := ⟨w4.heap.size + 1, 0, none⟩) (v := .int .i32 xc) b0
         replace b1 := Kep.all g7 (a := ⟨w4.heap.size + 1, 1, none⟩) (v := .int .i32 xd) b1
         replace gg := kep_next gg g7
         have zp_w7 : w.heap.size < w7.heap.size := World.block_lt_of_cell? _ _ p0
         have zq_w7 : w.heap.size + 1 < w7.heap.size := World.block_lt_of_cell? _ _ q0
         have zm_w7 : w.heap.size + 1 + 1 < w7.heap.size := World.block_lt_of_cell? _ _ m0
         have zn_w7 : w.heap.size + 1 + 1 + 1 < w7.heap.size := World.block_lt_of_cell? _ _ n0
         have za_w7 : w4.heap.size < w7.heap.size := World.block_lt_of_cell? _ _ a0
         have zb_w7 : w4.heap.size + 1 < w7.heap.size := World.block_lt_of_cell? _ _ b0)
      | ((with_reducible refine (D3.out _).mono ?_); rintro e w8 ⟨rfl, g8⟩
         replace p0 := Kep.all g8 (a := ⟨w.heap.size, 0, none⟩) (v := .int .i32 px) p0
         replace p1 := Kep.all g8 (a := ⟨w.heap.size, 1, none⟩) (v := .int .i32 py) p1
         replace q0 := Kep.all g8 (a := ⟨w.heap.size + 1, 0, none⟩) (v := .int .i32 qx) q0
         replace q1 := Kep.all g8 (a := ⟨w.heap.size + 1, 1, none⟩) (v := .int .i32 qy) q1
         replace m0 := Kep.all g8 (a := ⟨w.heap.size + 1 + 1, 0, none⟩) (v := .int .i32 mx) m0
         replace m1 := Kep.all g8 (a := ⟨w.heap.size + 1 + 1, 1, none⟩) (v := .int .i32 my) m1
         replace n0 := Kep.all g8 (a := ⟨w.heap.size + 1 + 1 + 1, 0, none⟩) (v := .int .i32 nx) n0
         replace n1 := Kep.all g8 (a := ⟨w.heap.size + 1 + 1 + 1, 1, none⟩) (v := .int .i32 ny) n1
         replace a0 := Kep.all g8 (a := ⟨w4.heap.size, 0, none⟩) (v := .int .i32 xa) a0
         replace a1 := Kep.all g8 (a := ⟨w4.heap.size, 1, none⟩) (v := .int .i32 xb) a1
         replace b0 := Kep.all g8 (a := ⟨w4.heap.size + 1, 0, none⟩) (v := .int .i32 xc) b0
         replace b1 := Kep.all g8 (a := ⟨w4.heap.size + 1, 1, none⟩) (v := .int .i32 xd) b1
         replace gg := kep_next gg g8
         have zp_w8 : w.heap.size < w8.heap.size := World.block_lt_of_cell? _ _ p0
         have zq_w8 : w.heap.size + 1 < w8.heap.size := World.block_lt_of_cell? _ _ q0
         have zm_w8 : w.heap.size + 1 + 1 < w8.heap.size := World.block_lt_of_cell? _ _ m0
         have zn_w8 : w.heap.size + 1 + 1 + 1 < w8.heap.size := World.block_lt_of_cell? _ _ n0
         have za_w8 : w4.heap.size < w8.heap.size := World.block_lt_of_cell? _ _ a0
         have zb_w8 : w4.heap.size + 1 < w8.heap.size := World.block_lt_of_cell? _ _ b0)
      | ((with_reducible refine (R2.out _).mono ?_); rintro e w9 ⟨rfl, g9⟩
         replace p0 := Kep.all g9 (a := ⟨w.heap.size, 0, none⟩) (v := .int .i32 px) p0
         replace p1 := Kep.all g9 (a := ⟨w.heap.size, 1, none⟩) (v := .int .i32 py) p1
         replace q0 := Kep.all g9 (a := ⟨w.heap.size + 1, 0, none⟩) (v := .int .i32 qx) q0
         replace q1 := Kep.all g9 (a := ⟨w.heap.size + 1, 1, none⟩) (v := .int .i32 qy) q1
         replace m0 := Kep.all g9 (a := ⟨w.heap.size + 1 + 1, 0, none⟩) (v := .int .i32 mx) m0
         replace m1 := Kep.all g9 (a := ⟨w.heap.size + 1 + 1, 1, none⟩) (v := .int .i32 my) m1
         replace n0 := Kep.all g9 (a := ⟨w.heap.size + 1 + 1 + 1, 0, none⟩) (v := .int .i32 nx) n0
         replace n1 := Kep.all g9 (a := ⟨w.heap.size + 1 + 1 + 1, 1, none⟩) (v := .int .i32 ny) n1
         replace a0 := Kep.all g9 (a := ⟨w4.heap.size, 0, none⟩) (v := .int .i32 xa) a0
         replace a1 := Kep.all g9 (a := ⟨w4.heap.size, 1, none⟩) (v := .int .i32 xb) a1
         replace b0 := Kep.all g9 (a := ⟨w4.heap.size + 1, 0, none⟩) (v := .int .i32 xc) b0
         replace b1 := Kep.all g9 (a := ⟨w4.heap.size + 1, 1, none⟩) (v := .int .i32 xd) b1
         replace gg := kep_next gg g9
         have zp_w9 : w.heap.size < w9.heap.size := World.block_lt_of_cell? _ _ p0
         have zq_w9 : w.heap.size + 1 < w9.heap.size := World.block_lt_of_cell? _ _ q0
         have zm_w9 : w.heap.size + 1 + 1 < w9.heap.size := World.block_lt_of_cell? _ _ m0
         have zn_w9 : w.heap.size + 1 + 1 + 1 < w9.heap.size := World.block_lt_of_cell? _ _ n0
         have za_w9 : w4.heap.size < w9.heap.size := World.block_lt_of_cell? _ _ a0
         have zb_w9 : w4.heap.size + 1 < w9.heap.size := World.block_lt_of_cell? _ _ b0))
    go_ret
    exact ⟨rfl, gg⟩
  cases z3
  rotate_left
  · clear hz v4
    go_enter Try.func4, Try.ntmps4
    go_wp2_with (first
      | ((with_reducible refine (AW.out _).mono ?_); rintro e w1 ⟨rfl, g1⟩
         have p0 := Kep.all g1 (a := ⟨w.heap.size, 0, none⟩) (v := .int .i32 px) (by (repeat (first | rw [World.cell?_drew] | rw [World.cell?_alloc_past _ _ _ (by first | (simp; done) | (simp; omega))])); rw [World.cell?_alloc_at _ _ _ _ (by simp)]; rfl)
         have p1 := Kep.all g1 (a := ⟨w.heap.size, 1, none⟩) (v := .int .i32 py) (by (repeat (first | rw [World.cell?_drew] | rw [World.cell?_alloc_past _ _ _ (by first | (simp; done) | (simp; omega))])); rw [World.cell?_alloc_at _ _ _ _ (by simp)]; rfl)
         have q0 := Kep.all g1 (a := ⟨w.heap.size + 1, 0, none⟩) (v := .int .i32 qx) (by (repeat (first | rw [World.cell?_drew] | rw [World.cell?_alloc_past _ _ _ (by first | (simp; done) | (simp; omega))])); rw [World.cell?_alloc_at _ _ _ _ (by simp)]; rfl)
         have q1 := Kep.all g1 (a := ⟨w.heap.size + 1, 1, none⟩) (v := .int .i32 qy) (by (repeat (first | rw [World.cell?_drew] | rw [World.cell?_alloc_past _ _ _ (by first | (simp; done) | (simp; omega))])); rw [World.cell?_alloc_at _ _ _ _ (by simp)]; rfl)
         have m0 := Kep.all g1 (a := ⟨w.heap.size + 1 + 1, 0, none⟩) (v := .int .i32 mx) (by (repeat (first | rw [World.cell?_drew] | rw [World.cell?_alloc_past _ _ _ (by first | (simp; done) | (simp; omega))])); rw [World.cell?_alloc_at _ _ _ _ (by simp)]; rfl)
         have m1 := Kep.all g1 (a := ⟨w.heap.size + 1 + 1, 1, none⟩) (v := .int .i32 my) (by (repeat (first | rw [World.cell?_drew] | rw [World.cell?_alloc_past _ _ _ (by first | (simp; done) | (simp; omega))])); rw [World.cell?_alloc_at _ _ _ _ (by simp)]; rfl)
         have n0 := Kep.all g1 (a := ⟨w.heap.size + 1 + 1 + 1, 0, none⟩) (v := .int .i32 nx) (by (repeat (first | rw [World.cell?_drew] | rw [World.cell?_alloc_past _ _ _ (by first | (simp; done) | (simp; omega))])); rw [World.cell?_alloc_at _ _ _ _ (by simp)]; rfl)
         have n1 := Kep.all g1 (a := ⟨w.heap.size + 1 + 1 + 1, 1, none⟩) (v := .int .i32 ny) (by (repeat (first | rw [World.cell?_drew] | rw [World.cell?_alloc_past _ _ _ (by first | (simp; done) | (simp; omega))])); rw [World.cell?_alloc_at _ _ _ _ (by simp)]; rfl)
         have gg := kep_next (kep_more (kep_more (kep_more (kep_more (Kep.refl _ _) _) _) _) _) g1
         have zp_w1 : w.heap.size < w1.heap.size := World.block_lt_of_cell? _ _ p0
         have zq_w1 : w.heap.size + 1 < w1.heap.size := World.block_lt_of_cell? _ _ q0
         have zm_w1 : w.heap.size + 1 + 1 < w1.heap.size := World.block_lt_of_cell? _ _ m0
         have zn_w1 : w.heap.size + 1 + 1 + 1 < w1.heap.size := World.block_lt_of_cell? _ _ n0)
      | ((with_reducible refine (RR.out _).mono ?_); rintro e w2 ⟨rfl, g2⟩
         replace p0 := Kep.all g2 (a := ⟨w.heap.size, 0, none⟩) (v := .int .i32 px) p0
         replace p1 := Kep.all g2 (a := ⟨w.heap.size, 1, none⟩) (v := .int .i32 py) p1
         replace q0 := Kep.all g2 (a := ⟨w.heap.size + 1, 0, none⟩) (v := .int .i32 qx) q0
         replace q1 := Kep.all g2 (a := ⟨w.heap.size + 1, 1, none⟩) (v := .int .i32 qy) q1
         replace m0 := Kep.all g2 (a := ⟨w.heap.size + 1 + 1, 0, none⟩) (v := .int .i32 mx) m0
         replace m1 := Kep.all g2 (a := ⟨w.heap.size + 1 + 1, 1, none⟩) (v := .int .i32 my) m1
         replace n0 := Kep.all g2 (a := ⟨w.heap.size + 1 + 1 + 1, 0, none⟩) (v := .int .i32 nx) n0
         replace n1 := Kep.all g2 (a := ⟨w.heap.size + 1 + 1 + 1, 1, none⟩) (v := .int .i32 ny) n1
         replace gg := kep_next gg g2
         have zp_w2 : w.heap.size < w2.heap.size := World.block_lt_of_cell? _ _ p0
         have zq_w2 : w.heap.size + 1 < w2.heap.size := World.block_lt_of_cell? _ _ q0
         have zm_w2 : w.heap.size + 1 + 1 < w2.heap.size := World.block_lt_of_cell? _ _ m0
         have zn_w2 : w.heap.size + 1 + 1 + 1 < w2.heap.size := World.block_lt_of_cell? _ _ n0)
      | ((with_reducible refine (C2.out _).mono ?_); rintro e w3 ⟨rfl, g3⟩
         replace p0 := Kep.all g3 (a := ⟨w.heap.size, 0, none⟩) (v := .int .i32 px) p0
         replace p1 := Kep.all g3 (a := ⟨w.heap.size, 1, none⟩) (v := .int .i32 py) p1
         replace q0 := Kep.all g3 (a := ⟨w.heap.size + 1, 0, none⟩) (v := .int .i32 qx) q0
         replace q1 := Kep.all g3 (a := ⟨w.heap.size + 1, 1, none⟩) (v := .int .i32 qy) q1
         replace m0 := Kep.all g3 (a := ⟨w.heap.size + 1 + 1, 0, none⟩) (v := .int .i32 mx) m0
         replace m1 := Kep.all g3 (a := ⟨w.heap.size + 1 + 1, 1, none⟩) (v := .int .i32 my) m1
         replace n0 := Kep.all g3 (a := ⟨w.heap.size + 1 + 1 + 1, 0, none⟩) (v := .int .i32 nx) n0
         replace n1 := Kep.all g3 (a := ⟨w.heap.size + 1 + 1 + 1, 1, none⟩) (v := .int .i32 ny) n1
         replace gg := kep_next gg g3
         have zp_w3 : w.heap.size < w3.heap.size := World.block_lt_of_cell? _ _ p0
         have zq_w3 : w.heap.size + 1 < w3.heap.size := World.block_lt_of_cell? _ _ q0
         have zm_w3 : w.heap.size + 1 + 1 < w3.heap.size := World.block_lt_of_cell? _ _ m0
         have zn_w3 : w.heap.size + 1 + 1 + 1 < w3.heap.size := World.block_lt_of_cell? _ _ n0)
      | ((with_reducible refine (C1.out _).mono ?_); rintro e w4 ⟨rfl, g4⟩
         replace p0 := Kep.all g4 (a := ⟨w.heap.size, 0, none⟩) (v := .int .i32 px) p0
         replace p1 := Kep.all g4 (a := ⟨w.heap.size, 1, none⟩) (v := .int .i32 py) p1
         replace q0 := Kep.all g4 (a := ⟨w.heap.size + 1, 0, none⟩) (v := .int .i32 qx) q0
         replace q1 := Kep.all g4 (a := ⟨w.heap.size + 1, 1, none⟩) (v := .int .i32 qy) q1
         replace m0 := Kep.all g4 (a := ⟨w.heap.size + 1 + 1, 0, none⟩) (v := .int .i32 mx) m0
         replace m1 := Kep.all g4 (a := ⟨w.heap.size + 1 + 1, 1, none⟩) (v := .int .i32 my) m1
         replace n0 := Kep.all g4 (a := ⟨w.heap.size + 1 + 1 + 1, 0, none⟩) (v := .int .i32 nx) n0
         replace n1 := Kep.all g4 (a := ⟨w.heap.size + 1 + 1 + 1, 1, none⟩) (v := .int .i32 ny) n1
         replace gg := kep_next gg g4
         have zp_w4 : w.heap.size < w4.heap.size := World.block_lt_of_cell? _ _ p0
         have zq_w4 : w.heap.size + 1 < w4.heap.size := World.block_lt_of_cell? _ _ q0
         have zm_w4 : w.heap.size + 1 + 1 < w4.heap.size := World.block_lt_of_cell? _ _ m0
         have zn_w4 : w.heap.size + 1 + 1 + 1 < w4.heap.size := World.block_lt_of_cell? _ _ n0)
      | ((with_reducible refine (D0.out _).mono ?_); rintro e w5 ⟨rfl, g5⟩
         replace p0 := Kep.all g5 (a := ⟨w.heap.size, 0, none⟩) (v := .int .i32 px) (Kep.all (kep_more (kep_more (Kep.refl _ _) _) _) p0)
         replace p1 := Kep.all g5 (a := ⟨w.heap.size, 1, none⟩) (v := .int .i32 py) (Kep.all (kep_more (kep_more (Kep.refl _ _) _) _) p1)
         replace q0 := Kep.all g5 (a := ⟨w.heap.size + 1, 0, none⟩) (v := .int .i32 qx) (Kep.all (kep_more (kep_more (Kep.refl _ _) _) _) q0)
         replace q1 := Kep.all g5 (a := ⟨w.heap.size + 1, 1, none⟩) (v := .int .i32 qy) (Kep.all (kep_more (kep_more (Kep.refl _ _) _) _) q1)
         replace m0 := Kep.all g5 (a := ⟨w.heap.size + 1 + 1, 0, none⟩) (v := .int .i32 mx) (Kep.all (kep_more (kep_more (Kep.refl _ _) _) _) m0)
         replace m1 := Kep.all g5 (a := ⟨w.heap.size + 1 + 1, 1, none⟩) (v := .int .i32 my) (Kep.all (kep_more (kep_more (Kep.refl _ _) _) _) m1)
         replace n0 := Kep.all g5 (a := ⟨w.heap.size + 1 + 1 + 1, 0, none⟩) (v := .int .i32 nx) (Kep.all (kep_more (kep_more (Kep.refl _ _) _) _) n0)
         replace n1 := Kep.all g5 (a := ⟨w.heap.size + 1 + 1 + 1, 1, none⟩) (v := .int .i32 ny) (Kep.all (kep_more (kep_more (Kep.refl _ _) _) _) n1)
         have a0 := Kep.all g5 (a := ⟨w4.heap.size, 0, none⟩) (v := .int .i32 xa) (by (repeat (first | rw [World.cell?_drew] | rw [World.cell?_alloc_past _ _ _ (by first | (simp; done) | (simp; omega))])); rw [World.cell?_alloc_at _ _ _ _ (by simp)]; rfl)
         have a1 := Kep.all g5 (a := ⟨w4.heap.size, 1, none⟩) (v := .int .i32 xb) (by (repeat (first | rw [World.cell?_drew] | rw [World.cell?_alloc_past _ _ _ (by first | (simp; done) | (simp; omega))])); rw [World.cell?_alloc_at _ _ _ _ (by simp)]; rfl)
         have b0 := Kep.all g5 (a := ⟨w4.heap.size + 1, 0, none⟩) (v := .int .i32 xc) (by (repeat (first | rw [World.cell?_drew] | rw [World.cell?_alloc_past _ _ _ (by first | (simp; done) | (simp; omega))])); rw [World.cell?_alloc_at _ _ _ _ (by simp)]; rfl)
         have b1 := Kep.all g5 (a := ⟨w4.heap.size + 1, 1, none⟩) (v := .int .i32 xd) (by (repeat (first | rw [World.cell?_drew] | rw [World.cell?_alloc_past _ _ _ (by first | (simp; done) | (simp; omega))])); rw [World.cell?_alloc_at _ _ _ _ (by simp)]; rfl)
         replace gg := kep_next (kep_more (kep_more gg _) _) g5
         have zp_w5 : w.heap.size < w5.heap.size := World.block_lt_of_cell? _ _ p0
         have zq_w5 : w.heap.size + 1 < w5.heap.size := World.block_lt_of_cell? _ _ q0
         have zm_w5 : w.heap.size + 1 + 1 < w5.heap.size := World.block_lt_of_cell? _ _ m0
         have zn_w5 : w.heap.size + 1 + 1 + 1 < w5.heap.size := World.block_lt_of_cell? _ _ n0
         have za_w5 : w4.heap.size < w5.heap.size := World.block_lt_of_cell? _ _ a0
         have zb_w5 : w4.heap.size + 1 < w5.heap.size := World.block_lt_of_cell? _ _ b0)
      | ((with_reducible refine (D1.out _).mono ?_); rintro e w6 ⟨rfl, g6⟩
         replace p0 := Kep.all g6 (a := ⟨w.heap.size, 0, none⟩) (v := .int .i32 px) p0
         replace p1 := Kep.all g6 (a := ⟨w.heap.size, 1, none⟩) (v := .int .i32 py) p1
         replace q0 := Kep.all g6 (a := ⟨w.heap.size + 1, 0, none⟩) (v := .int .i32 qx) q0
         replace q1 := Kep.all g6 (a := ⟨w.heap.size + 1, 1, none⟩) (v := .int .i32 qy) q1
         replace m0 := Kep.all g6 (a := ⟨w.heap.size + 1 + 1, 0, none⟩) (v := .int .i32 mx) m0
         replace m1 := Kep.all g6 (a := ⟨w.heap.size + 1 + 1, 1, none⟩) (v := .int .i32 my) m1
         replace n0 := Kep.all g6 (a := ⟨w.heap.size + 1 + 1 + 1, 0, none⟩) (v := .int .i32 nx) n0
         replace n1 := Kep.all g6 (a := ⟨w.heap.size + 1 + 1 + 1, 1, none⟩) (v := .int .i32 ny) n1
         replace a0 := Kep.all g6 (a := ⟨w4.heap.size, 0, none⟩) (v := .int .i32 xa) a0
         replace a1 := Kep.all g6 (a := ⟨w4.heap.size, 1, none⟩) (v := .int .i32 xb) a1
         replace b0 := Kep.all g6 (a := ⟨w4.heap.size + 1, 0, none⟩) (v := .int .i32 xc) b0
         replace b1 := Kep.all g6 (a := ⟨w4.heap.size + 1, 1, none⟩) (v := .int .i32 xd) b1
         replace gg := kep_next gg g6
         have zp_w6 : w.heap.size < w6.heap.size := World.block_lt_of_cell? _ _ p0
         have zq_w6 : w.heap.size + 1 < w6.heap.size := World.block_lt_of_cell? _ _ q0
         have zm_w6 : w.heap.size + 1 + 1 < w6.heap.size := World.block_lt_of_cell? _ _ m0
         have zn_w6 : w.heap.size + 1 + 1 + 1 < w6.heap.size := World.block_lt_of_cell? _ _ n0
         have za_w6 : w4.heap.size < w6.heap.size := World.block_lt_of_cell? _ _ a0
         have zb_w6 : w4.heap.size + 1 < w6.heap.size := World.block_lt_of_cell? _ _ b0)
      | ((with_reducible refine (D2.out _).mono ?_); rintro e w7 ⟨rfl, g7⟩
         replace p0 := Kep.all g7 (a := ⟨w.heap.size, 0, none⟩) (v := .int .i32 px) p0
         replace p1 := Kep.all g7 (a := ⟨w.heap.size, 1, none⟩) (v := .int .i32 py) p1
         replace q0 := Kep.all g7 (a := ⟨w.heap.size + 1, 0, none⟩) (v := .int .i32 qx) q0
         replace q1 := Kep.all g7 (a := ⟨w.heap.size + 1, 1, none⟩) (v := .int .i32 qy) q1
         replace m0 := Kep.all g7 (a := ⟨w.heap.size + 1 + 1, 0, none⟩) (v := .int .i32 mx) m0
         replace m1 := Kep.all g7 (a := ⟨w.heap.size + 1 + 1, 1, none⟩) (v := .int .i32 my) m1
         replace n0 := Kep.all g7 (a := ⟨w.heap.size + 1 + 1 + 1, 0, none⟩) (v := .int .i32 nx) n0
         replace n1 := Kep.all g7 (a := ⟨w.heap.size + 1 + 1 + 1, 1, none⟩) (v := .int .i32 ny) n1
         replace a0 := Kep.all g7 (a := ⟨w4.heap.size, 0, none⟩) (v := .int .i32 xa) a0
         replace a1 := Kep.all g7 (a := ⟨w4.heap.size, 1, none⟩) (v := .int .i32 xb) a1
         replace b0 := Kep.all g7 (a := ⟨w4.heap.size + 1, 0, none⟩) (v := .int .i32 xc) b0
         replace b1 := Kep.all g7 (a := ⟨w4.heap.size + 1, 1, none⟩) (v := .int .i32 xd) b1
         replace gg := kep_next gg g7
         have zp_w7 : w.heap.size < w7.heap.size := World.block_lt_of_cell? _ _ p0
         have zq_w7 : w.heap.size + 1 < w7.heap.size := World.block_lt_of_cell? _ _ q0
         have zm_w7 : w.heap.size + 1 + 1 < w7.heap.size := World.block_lt_of_cell? _ _ m0
         have zn_w7 : w.heap.size + 1 + 1 + 1 < w7.heap.size := World.block_lt_of_cell? _ _ n0
         have za_w7 : w4.heap.size < w7.heap.size := World.block_lt_of_cell? _ _ a0
         have zb_w7 : w4.heap.size + 1 < w7.heap.size := World.block_lt_of_cell? _ _ b0)
      | ((with_reducible refine (D3.out _).mono ?_); rintro e w8 ⟨rfl, g8⟩
         replace p0 := Kep.all g8 (a := ⟨w.heap.size, 0, none⟩) (v := .int .i32 px) p0
         replace p1 := Kep.all g8 (a := ⟨w.heap.size, 1, none⟩) (v := .int .i32 py) p1
         replace q0 := Kep.all g8 (a := ⟨w.heap.size + 1, 0, none⟩) (v := .int .i32 qx) q0
         replace q1 := Kep.all g8 (a := ⟨w.heap.size + 1, 1, none⟩) (v := .int .i32 qy) q1
         replace m0 := Kep.all g8 (a := ⟨w.heap.size + 1 + 1, 0, none⟩) (v := .int .i32 mx) m0
         replace m1 := Kep.all g8 (a := ⟨w.heap.size + 1 + 1, 1, none⟩) (v := .int .i32 my) m1
         replace n0 := Kep.all g8 (a := ⟨w.heap.size + 1 + 1 + 1, 0, none⟩) (v := .int .i32 nx) n0
         replace n1 := Kep.all g8 (a := ⟨w.heap.size + 1 + 1 + 1, 1, none⟩) (v := .int .i32 ny) n1
         replace a0 := Kep.all g8 (a := ⟨w4.heap.size, 0, none⟩) (v := .int .i32 xa) a0
         replace a1 := Kep.all g8 (a := ⟨w4.heap.size, 1, none⟩) (v := .int .i32 xb) a1
         replace b0 := Kep.all g8 (a := ⟨w4.heap.size + 1, 0, none⟩) (v := .int .i32 xc) b0
         replace b1 := Kep.all g8 (a := ⟨w4.heap.size + 1, 1, none⟩) (v := .int .i32 xd) b1
         replace gg := kep_next gg g8
         have zp_w8 : w.heap.size < w8.heap.size := World.block_lt_of_cell? _ _ p0
         have zq_w8 : w.heap.size + 1 < w8.heap.size := World.block_lt_of_cell? _ _ q0
         have zm_w8 : w.heap.size + 1 + 1 < w8.heap.size := World.block_lt_of_cell? _ _ m0
         have zn_w8 : w.heap.size + 1 + 1 + 1 < w8.heap.size := World.block_lt_of_cell? _ _ n0
         have za_w8 : w4.heap.size < w8.heap.size := World.block_lt_of_cell? _ _ a0
         have zb_w8 : w4.heap.size + 1 < w8.heap.size := World.block_lt_of_cell? _ _ b0)
      | ((with_reducible refine (R2.out _).mono ?_); rintro e w9 ⟨rfl, g9⟩
         replace p0 := Kep.all g9 (a := ⟨w.heap.size, 0, none⟩) (v := .int .i32 px) p0
         replace p1 := Kep.all g9 (a := ⟨w.heap.size, 1, none⟩) (v := .int .i32 py) p1
         replace q0 := Kep.all g9 (a := ⟨w.heap.size + 1, 0, none⟩) (v := .int .i32 qx) q0
         replace q1 := Kep.all g9 (a := ⟨w.heap.size + 1, 1, none⟩) (v := .int .i32 qy) q1
         replace m0 := Kep.all g9 (a := ⟨w.heap.size + 1 + 1, 0, none⟩) (v := .int .i32 mx) m0
         replace m1 := Kep.all g9 (a := ⟨w.heap.size + 1 + 1, 1, none⟩) (v := .int .i32 my) m1
         replace n0 := Kep.all g9 (a := ⟨w.heap.size + 1 + 1 + 1, 0, none⟩) (v := .int .i32 nx) n0
         replace n1 := Kep.all g9 (a := ⟨w.heap.size + 1 + 1 + 1, 1, none⟩) (v := .int .i32 ny) n1
         replace a0 := Kep.all g9 (a := ⟨w4.heap.size, 0, none⟩) (v := .int .i32 xa) a0
         replace a1 := Kep.all g9 (a := ⟨w4.heap.size, 1, none⟩) (v := .int .i32 xb) a1
         replace b0 := Kep.all g9 (a := ⟨w4.heap.size + 1, 0, none⟩) (v := .int .i32 xc) b0
         replace b1 := Kep.all g9 (a := ⟨w4.heap.size + 1, 1, none⟩) (v := .int .i32 xd) b1
         replace gg := kep_next gg g9
         have zp_w9 : w.heap.size < w9.heap.size := World.block_lt_of_cell? _ _ p0
         have zq_w9 : w.heap.size + 1 < w9.heap.size := World.block_lt_of_cell? _ _ q0
         have zm_w9 : w.heap.size + 1 + 1 < w9.heap.size := World.block_lt_of_cell? _ _ m0
         have zn_w9 : w.heap.size + 1 + 1 + 1 < w9.heap.size := World.block_lt_of_cell? _ _ n0
         have za_w9 : w4.heap.size < w9.heap.size := World.block_lt_of_cell? _ _ a0
         have zb_w9 : w4.heap.size + 1 < w9.heap.size := World.block_lt_of_cell? _ _ b0))
    go_ret
    exact ⟨rfl, gg⟩
  obtain rfl : z4 = true := by simpa using hz
  clear hz
  go_enter Try.func4, Try.ntmps4
  go_wp2_with (first
    | ((with_reducible refine (AW.out _).mono ?_); rintro e w1 ⟨rfl, g1⟩
       have p0 := Kep.all g1 (a := ⟨w.heap.size, 0, none⟩) (v := .int .i32 px) (by (repeat (first | rw [World.cell?_drew] | rw [World.cell?_alloc_past _ _ _ (by first | (simp; done) | (simp; omega))])); rw [World.cell?_alloc_at _ _ _ _ (by simp)]; rfl)
       have p1 := Kep.all g1 (a := ⟨w.heap.size, 1, none⟩) (v := .int .i32 py) (by (repeat (first | rw [World.cell?_drew] | rw [World.cell?_alloc_past _ _ _ (by first | (simp; done) | (simp; omega))])); rw [World.cell?_alloc_at _ _ _ _ (by simp)]; rfl)
       have q0 := Kep.all g1 (a := ⟨w.heap.size + 1, 0, none⟩) (v := .int .i32 qx) (by (repeat (first | rw [World.cell?_drew] | rw [World.cell?_alloc_past _ _ _ (by first | (simp; done) | (simp; omega))])); rw [World.cell?_alloc_at _ _ _ _ (by simp)]; rfl)
       have q1 := Kep.all g1 (a := ⟨w.heap.size + 1, 1, none⟩) (v := .int .i32 qy) (by (repeat (first | rw [World.cell?_drew] | rw [World.cell?_alloc_past _ _ _ (by first | (simp; done) | (simp; omega))])); rw [World.cell?_alloc_at _ _ _ _ (by simp)]; rfl)
       have m0 := Kep.all g1 (a := ⟨w.heap.size + 1 + 1, 0, none⟩) (v := .int .i32 mx) (by (repeat (first | rw [World.cell?_drew] | rw [World.cell?_alloc_past _ _ _ (by first | (simp; done) | (simp; omega))])); rw [World.cell?_alloc_at _ _ _ _ (by simp)]; rfl)
       have m1 := Kep.all g1 (a := ⟨w.heap.size + 1 + 1, 1, none⟩) (v := .int .i32 my) (by (repeat (first | rw [World.cell?_drew] | rw [World.cell?_alloc_past _ _ _ (by first | (simp; done) | (simp; omega))])); rw [World.cell?_alloc_at _ _ _ _ (by simp)]; rfl)
       have n0 := Kep.all g1 (a := ⟨w.heap.size + 1 + 1 + 1, 0, none⟩) (v := .int .i32 nx) (by (repeat (first | rw [World.cell?_drew] | rw [World.cell?_alloc_past _ _ _ (by first | (simp; done) | (simp; omega))])); rw [World.cell?_alloc_at _ _ _ _ (by simp)]; rfl)
       have n1 := Kep.all g1 (a := ⟨w.heap.size + 1 + 1 + 1, 1, none⟩) (v := .int .i32 ny) (by (repeat (first | rw [World.cell?_drew] | rw [World.cell?_alloc_past _ _ _ (by first | (simp; done) | (simp; omega))])); rw [World.cell?_alloc_at _ _ _ _ (by simp)]; rfl)
       have gg := kep_next (kep_more (kep_more (kep_more (kep_more (Kep.refl _ _) _) _) _) _) g1
       have zp_w1 : w.heap.size < w1.heap.size := World.block_lt_of_cell? _ _ p0
       have zq_w1 : w.heap.size + 1 < w1.heap.size := World.block_lt_of_cell? _ _ q0
       have zm_w1 : w.heap.size + 1 + 1 < w1.heap.size := World.block_lt_of_cell? _ _ m0
       have zn_w1 : w.heap.size + 1 + 1 + 1 < w1.heap.size := World.block_lt_of_cell? _ _ n0)
    | ((with_reducible refine (RR.out _).mono ?_); rintro e w2 ⟨rfl, g2⟩
       replace p0 := Kep.all g2 (a := ⟨w.heap.size, 0, none⟩) (v := .int .i32 px) p0
       replace p1 := Kep.all g2 (a := ⟨w.heap.size, 1, none⟩) (v := .int .i32 py) p1
       replace q0 := Kep.all g2 (a := ⟨w.heap.size + 1, 0, none⟩) (v := .int .i32 qx) q0
       replace q1 := Kep.all g2 (a := ⟨w.heap.size + 1, 1, none⟩) (v := .int .i32 qy) q1
       replace m0 := Kep.all g2 (a := ⟨w.heap.size + 1 + 1, 0, none⟩) (v := .int .i32 mx) m0
       replace m1 := Kep.all g2 (a := ⟨w.heap.size + 1 + 1, 1, none⟩) (v := .int .i32 my) m1
       replace n0 := Kep.all g2 (a := ⟨w.heap.size + 1 + 1 + 1, 0, none⟩) (v := .int .i32 nx) n0
       replace n1 := Kep.all g2 (a := ⟨w.heap.size + 1 + 1 + 1, 1, none⟩) (v := .int .i32 ny) n1
       replace gg := kep_next gg g2
       have zp_w2 : w.heap.size < w2.heap.size := World.block_lt_of_cell? _ _ p0
       have zq_w2 : w.heap.size + 1 < w2.heap.size := World.block_lt_of_cell? _ _ q0
       have zm_w2 : w.heap.size + 1 + 1 < w2.heap.size := World.block_lt_of_cell? _ _ m0
       have zn_w2 : w.heap.size + 1 + 1 + 1 < w2.heap.size := World.block_lt_of_cell? _ _ n0)
    | ((with_reducible refine (C2.out _).mono ?_); rintro e w3 ⟨rfl, g3⟩
       replace p0 := Kep.all g3 (a := ⟨w.heap.size, 0, none⟩) (v := .int .i32 px) p0
       replace p1 := Kep.all g3 (a := ⟨w.heap.size, 1, none⟩) (v := .int .i32 py) p1
       replace q0 := Kep.all g3 (a := ⟨w.heap.size + 1, 0, none⟩) (v := .int .i32 qx) q0
       replace q1 := Kep.all g3 (a := ⟨w.heap.size + 1, 1, none⟩) (v := .int .i32 qy) q1
       replace m0 := Kep.all g3 (a := ⟨w.heap.size + 1 + 1, 0, none⟩) (v := .int .i32 mx) m0
       replace m1 := Kep.all g3 (a := ⟨w.heap.size + 1 + 1, 1, none⟩) (v := .int .i32 my) m1
       replace n0 := Kep.all g3 (a := ⟨w.heap.size + 1 + 1 + 1, 0, none⟩) (v := .int .i32 nx) n0
       replace n1 := Kep.all g3 (a := ⟨w.heap.size + 1 + 1 + 1, 1, none⟩) (v := .int .i32 ny) n1
       replace gg := kep_next gg g3
       have zp_w3 : w.heap.size < w3.heap.size := World.block_lt_of_cell? _ _ p0
       have zq_w3 : w.heap.size + 1 < w3.heap.size := World.block_lt_of_cell? _ _ q0
       have zm_w3 : w.heap.size + 1 + 1 < w3.heap.size := World.block_lt_of_cell? _ _ m0
       have zn_w3 : w.heap.size + 1 + 1 + 1 < w3.heap.size := World.block_lt_of_cell? _ _ n0)
    | ((with_reducible refine (C1.out _).mono ?_); rintro e w4 ⟨rfl, g4⟩
       replace p0 := Kep.all g4 (a := ⟨w.heap.size, 0, none⟩) (v := .int .i32 px) p0
       replace p1 := Kep.all g4 (a := ⟨w.heap.size, 1, none⟩) (v := .int .i32 py) p1
       replace q0 := Kep.all g4 (a := ⟨w.heap.size + 1, 0, none⟩) (v := .int .i32 qx) q0
       replace q1 := Kep.all g4 (a := ⟨w.heap.size + 1, 1, none⟩) (v := .int .i32 qy) q1
       replace m0 := Kep.all g4 (a := ⟨w.heap.size + 1 + 1, 0, none⟩) (v := .int .i32 mx) m0
       replace m1 := Kep.all g4 (a := ⟨w.heap.size + 1 + 1, 1, none⟩) (v := .int .i32 my) m1
       replace n0 := Kep.all g4 (a := ⟨w.heap.size + 1 + 1 + 1, 0, none⟩) (v := .int .i32 nx) n0
       replace n1 := Kep.all g4 (a := ⟨w.heap.size + 1 + 1 + 1, 1, none⟩) (v := .int .i32 ny) n1
       replace gg := kep_next gg g4
       have zp_w4 : w.heap.size < w4.heap.size := World.block_lt_of_cell? _ _ p0
       have zq_w4 : w.heap.size + 1 < w4.heap.size := World.block_lt_of_cell? _ _ q0
       have zm_w4 : w.heap.size + 1 + 1 < w4.heap.size := World.block_lt_of_cell? _ _ m0
       have zn_w4 : w.heap.size + 1 + 1 + 1 < w4.heap.size := World.block_lt_of_cell? _ _ n0)
    | ((with_reducible refine (D0.out _).mono ?_); rintro e w5 ⟨rfl, g5⟩
       replace p0 := Kep.all g5 (a := ⟨w.heap.size, 0, none⟩) (v := .int .i32 px) (Kep.all (kep_more (kep_more (Kep.refl _ _) _) _) p0)
       replace p1 := Kep.all g5 (a := ⟨w.heap.size, 1, none⟩) (v := .int .i32 py) (Kep.all (kep_more (kep_more (Kep.refl _ _) _) _) p1)
       replace q0 := Kep.all g5 (a := ⟨w.heap.size + 1, 0, none⟩) (v := .int .i32 qx) (Kep.all (kep_more (kep_more (Kep.refl _ _) _) _) q0)
       replace q1 := Kep.all g5 (a := ⟨w.heap.size + 1, 1, none⟩) (v := .int .i32 qy) (Kep.all (kep_more (kep_more (Kep.refl _ _) _) _) q1)
       replace m0 := Kep.all g5 (a := ⟨w.heap.size + 1 + 1, 0, none⟩) (v := .int .i32 mx) (Kep.all (kep_more (kep_more (Kep.refl _ _) _) _) m0)
       replace m1 := Kep.all g5 (a := ⟨w.heap.size + 1 + 1, 1, none⟩) (v := .int .i32 my) (Kep.all (kep_more (kep_more (Kep.refl _ _) _) _) m1)
       replace n0 := Kep.all g5 (a := ⟨w.heap.size + 1 + 1 + 1, 0, none⟩) (v := .int .i32 nx) (Kep.all (kep_more (kep_more (Kep.refl _ _) _) _) n0)
       replace n1 := Kep.all g5 (a := ⟨w.heap.size + 1 + 1 + 1, 1, none⟩) (v := .int .i32 ny) (Kep.all (kep_more (kep_more (Kep.refl _ _) _) _) n1)
       have a0 := Kep.all g5 (a := ⟨w4.heap.size, 0, none⟩) (v := .int .i32 xa) (by (repeat (first | rw [World.cell?_drew] | rw [World.cell?_alloc_past _ _ _ (by first | (simp; done) | (simp; omega))])); rw [World.cell?_alloc_at _ _ _ _ (by simp)]; rfl)
       have a1 := Kep.all g5 (a := ⟨w4.heap.size, 1, none⟩) (v := .int .i32 xb) (by (repeat (first | rw [World.cell?_drew] | rw [World.cell?_alloc_past _ _ _ (by first | (simp; done) | (simp; omega))])); rw [World.cell?_alloc_at _ _ _ _ (by simp)]; rfl)
       have b0 := Kep.all g5 (a := ⟨w4.heap.size + 1, 0, none⟩) (v := .int .i32 xc) (by (repeat (first | rw [World.cell?_drew] | rw [World.cell?_alloc_past _ _ _ (by first | (simp; done) | (simp; omega))])); rw [World.cell?_alloc_at _ _ _ _ (by simp)]; rfl)
       have b1 := Kep.all g5 (a := ⟨w4.heap.size + 1, 1, none⟩) (v := .int .i32 xd) (by (repeat (first | rw [World.cell?_drew] | rw [World.cell?_alloc_past _ _ _ (by first | (simp; done) | (simp; omega))])); rw [World.cell?_alloc_at _ _ _ _ (by simp)]; rfl)
       replace gg := kep_next (kep_more (kep_more gg _) _) g5
       have zp_w5 : w.heap.size < w5.heap.size := World.block_lt_of_cell? _ _ p0
       have zq_w5 : w.heap.size + 1 < w5.heap.size := World.block_lt_of_cell? _ _ q0
       have zm_w5 : w.heap.size + 1 + 1 < w5.heap.size := World.block_lt_of_cell? _ _ m0
       have zn_w5 : w.heap.size + 1 + 1 + 1 < w5.heap.size := World.block_lt_of_cell? _ _ n0
       have za_w5 : w4.heap.size < w5.heap.size := World.block_lt_of_cell? _ _ a0
       have zb_w5 : w4.heap.size + 1 < w5.heap.size := World.block_lt_of_cell? _ _ b0)
    | ((with_reducible refine (D1.out _).mono ?_); rintro e w6 ⟨rfl, g6⟩
       replace p0 := Kep.all g6 (a := ⟨w.heap.size, 0, none⟩) (v := .int .i32 px) p0
       replace p1 := Kep.all g6 (a := ⟨w.heap.size, 1, none⟩) (v := .int .i32 py) p1
       replace q0 := Kep.all g6 (a := ⟨w.heap.size + 1, 0, none⟩) (v := .int .i32 qx) q0
       replace q1 := Kep.all g6 (a := ⟨w.heap.size + 1, 1, none⟩) (v := .int .i32 qy) q1
       replace m0 := Kep.all g6 (a := ⟨w.heap.size + 1 + 1, 0, none⟩) (v := .int .i32 mx) m0
       replace m1 := Kep.all g6 (a := ⟨w.heap.size + 1 + 1, 1, none⟩) (v := .int .i32 my) m1
       replace n0 := Kep.all g6 (a := ⟨w.heap.size + 1 + 1 + 1, 0, none⟩) (v := .int .i32 nx) n0
       replace n1 := Kep.all g6 (a := ⟨w.heap.size + 1 + 1 + 1, 1, none⟩) (v := .int .i32 ny) n1
       replace a0 := Kep.all g6 (a := ⟨w4.heap.size, 0, none⟩) (v := .int .i32 xa) a0
       replace a1 := Kep.all g6 (a := ⟨w4.heap.size, 1, none⟩) (v := .int .i32 xb) a1
       replace b0 := Kep.all g6 (a := ⟨w4.heap.size + 1, 0, none⟩) (v := .int .i32 xc) b0
       replace b1 := Kep.all g6 (a := ⟨w4.heap.size + 1, 1, none⟩) (v := .int .i32 xd) b1
       replace gg := kep_next gg g6
       have zp_w6 : w.heap.size < w6.heap.size := World.block_lt_of_cell? _ _ p0
       have zq_w6 : w.heap.size + 1 < w6.heap.size := World.block_lt_of_cell? _ _ q0
       have zm_w6 : w.heap.size + 1 + 1 < w6.heap.size := World.block_lt_of_cell? _ _ m0
       have zn_w6 : w.heap.size + 1 + 1 + 1 < w6.heap.size := World.block_lt_of_cell? _ _ n0
       have za_w6 : w4.heap.size < w6.heap.size := World.block_lt_of_cell? _ _ a0
       have zb_w6 : w4.heap.size + 1 < w6.heap.size := World.block_lt_of_cell? _ _ b0)
    | ((with_reducible refine (D2.out _).mono ?_); rintro e w7 ⟨rfl, g7⟩
       replace p0 := Kep.all g7 (a := ⟨w.heap.size, 0, none⟩) (v := .int .i32 px) p0
       replace p1 := Kep.all g7 (a := ⟨w.heap.size, 1, none⟩) (v := .int .i32 py) p1
       replace q0 := Kep.all g7 (a := ⟨w.heap.size + 1, 0, none⟩) (v := .int .i32 qx) q0
       replace q1 := Kep.all g7 (a := ⟨w.heap.size + 1, 1, none⟩) (v := .int .i32 qy) q1
       replace m0 := Kep.all g7 (a := ⟨w.heap.size + 1 + 1, 0, none⟩) (v := .int .i32 mx) m0
       replace m1 := Kep.all g7 (a := ⟨w.heap.size + 1 + 1, 1, none⟩) (v := .int .i32 my) m1
       replace n0 := Kep.all g7 (a := ⟨w.heap.size + 1 + 1 + 1, 0, none⟩) (v := .int .i32 nx) n0
       replace n1 := Kep.all g7 (a := ⟨w.heap.size + 1 + 1 + 1, 1, none⟩) (v := .int .i32 ny) n1
       replace a0 := Kep.all g7 (a := ⟨w4.heap.size, 0, none⟩) (v := .int .i32 xa) a0
       replace a1 := Kep.all g7 (a := ⟨w4.heap.size, 1, none⟩) (v := .int .i32 xb) a1
       replace b0 := Kep.all g7 (a := ⟨w4.heap.size + 1, 0, none⟩) (v := .int .i32 xc) b0
       replace b1 := Kep.all g7 (a := ⟨w4.heap.size + 1, 1, none⟩) (v := .int .i32 xd) b1
       replace gg := kep_next gg g7
       have zp_w7 : w.heap.size < w7.heap.size := World.block_lt_of_cell? _ _ p0
       have zq_w7 : w.heap.size + 1 < w7.heap.size := World.block_lt_of_cell? _ _ q0
       have zm_w7 : w.heap.size + 1 + 1 < w7.heap.size := World.block_lt_of_cell? _ _ m0
       have zn_w7 : w.heap.size + 1 + 1 + 1 < w7.heap.size := World.block_lt_of_cell? _ _ n0
       have za_w7 : w4.heap.size < w7.heap.size := World.block_lt_of_cell? _ _ a0
       have zb_w7 : w4.heap.size + 1 < w7.heap.size := World.block_lt_of_cell? _ _ b0)
    | ((with_reducible refine (D3.out _).mono ?_); rintro e w8 ⟨rfl, g8⟩
       replace p0 := Kep.all g8 (a := ⟨w.heap.size, 0, none⟩) (v := .int .i32 px) p0
       replace p1 := Kep.all g8 (a := ⟨w.heap.size, 1, none⟩) (v := .int .i32 py) p1
       replace q0 := Kep.all g8 (a := ⟨w.heap.size + 1, 0, none⟩) (v := .int .i32 qx) q0
       replace q1 := Kep.all g8 (a := ⟨w.heap.size + 1, 1, none⟩) (v := .int .i32 qy) q1
       replace m0 := Kep.all g8 (a := ⟨w.heap.size + 1 + 1, 0, none⟩) (v := .int .i32 mx) m0
       replace m1 := Kep.all g8 (a := ⟨w.heap.size + 1 + 1, 1, none⟩) (v := .int .i32 my) m1
       replace n0 := Kep.all g8 (a := ⟨w.heap.size + 1 + 1 + 1, 0, none⟩) (v := .int .i32 nx) n0
       replace n1 := Kep.all g8 (a := ⟨w.heap.size + 1 + 1 + 1, 1, none⟩) (v := .int .i32 ny) n1
       replace a0 := Kep.all g8 (a := ⟨w4.heap.size, 0, none⟩) (v := .int .i32 xa) a0
       replace a1 := Kep.all g8 (a := ⟨w4.heap.size, 1, none⟩) (v := .int .i32 xb) a1
       replace b0 := Kep.all g8 (a := ⟨w4.heap.size + 1, 0, none⟩) (v := .int .i32 xc) b0
       replace b1 := Kep.all g8 (a := ⟨w4.heap.size + 1, 1, none⟩) (v := .int .i32 xd) b1
       replace gg := kep_next gg g8
       have zp_w8 : w.heap.size < w8.heap.size := World.block_lt_of_cell? _ _ p0
       have zq_w8 : w.heap.size + 1 < w8.heap.size := World.block_lt_of_cell? _ _ q0
       have zm_w8 : w.heap.size + 1 + 1 < w8.heap.size := World.block_lt_of_cell? _ _ m0
       have zn_w8 : w.heap.size + 1 + 1 + 1 < w8.heap.size := World.block_lt_of_cell? _ _ n0
       have za_w8 : w4.heap.size < w8.heap.size := World.block_lt_of_cell? _ _ a0
       have zb_w8 : w4.heap.size + 1 < w8.heap.size := World.block_lt_of_cell? _ _ b0)
    | ((with_reducible refine (R2.out _).mono ?_); rintro e w9 ⟨rfl, g9⟩
       replace p0 := Kep.all g9 (a := ⟨w.heap.size, 0, none⟩) (v := .int .i32 px) p0
       replace p1 := Kep.all g9 (a := ⟨w.heap.size, 1, none⟩) (v := .int .i32 py) p1
       replace q0 := Kep.all g9 (a := ⟨w.heap.size + 1, 0, none⟩) (v := .int .i32 qx) q0
       replace q1 := Kep.all g9 (a := ⟨w.heap.size + 1, 1, none⟩) (v := .int .i32 qy) q1
       replace m0 := Kep.all g9 (a := ⟨w.heap.size + 1 + 1, 0, none⟩) (v := .int .i32 mx) m0
       replace m1 := Kep.all g9 (a := ⟨w.heap.size + 1 + 1, 1, none⟩) (v := .int .i32 my) m1
       replace n0 := Kep.all g9 (a := ⟨w.heap.size + 1 + 1 + 1, 0, none⟩) (v := .int .i32 nx) n0
       replace n1 := Kep.all g9 (a := ⟨w.heap.size + 1 + 1 + 1, 1, none⟩) (v := .int .i32 ny) n1
       replace a0 := Kep.all g9 (a := ⟨w4.heap.size, 0, none⟩) (v := .int .i32 xa) a0
       replace a1 := Kep.all g9 (a := ⟨w4.heap.size, 1, none⟩) (v := .int .i32 xb) a1
       replace b0 := Kep.all g9 (a := ⟨w4.heap.size + 1, 0, none⟩) (v := .int .i32 xc) b0
       replace b1 := Kep.all g9 (a := ⟨w4.heap.size + 1, 1, none⟩) (v := .int .i32 xd) b1
       replace gg := kep_next gg g9
       have zp_w9 : w.heap.size < w9.heap.size := World.block_lt_of_cell? _ _ p0
       have zq_w9 : w.heap.size + 1 < w9.heap.size := World.block_lt_of_cell? _ _ q0
       have zm_w9 : w.heap.size + 1 + 1 < w9.heap.size := World.block_lt_of_cell? _ _ m0
       have zn_w9 : w.heap.size + 1 + 1 + 1 < w9.heap.size := World.block_lt_of_cell? _ _ n0
       have za_w9 : w4.heap.size < w9.heap.size := World.block_lt_of_cell? _ _ a0
       have zb_w9 : w4.heap.size + 1 < w9.heap.size := World.block_lt_of_cell? _ _ b0))
  go_ret
  exact ⟨rfl, gg⟩
set_option maxRecDepth 100000 in
set_option maxHeartbeats 4000000 in
theorem sll_ok (O : SOps) (AW : Hid SAwake) (px py qx qy mx my nx ny : Int) (hr : sgB px py qx qy mx my nx ny = true) (w : World) : Calls Try.prog 4 #[.agg #[.int .i32 px, .int .i32 py], .agg #[.int .i32 qx, .int .i32 qy], .agg #[.int .i32 mx, .int .i32 my], .agg #[.int .i32 nx, .int .i32 ny]] w fun e w' => e = .returned (.bool true) ∧ Kep w.heap.size w w' := by
  have RR := Lib.hid (rr4 px py qx qy mx my nx ny true hr)
  have hg := sg_chs hr
  have C1 := O.chosen hr rfl
  have C2 := O.dist hr rfl
  have R2 := hg.rd
  obtain ⟨g1, g2, g3, g4⟩ := sg_rg hr
  have D0 := Lib.hid (rdsF g1 rfl)
  have D1 := Lib.hid (rdsF g2 rfl)
  have D2 := Lib.hid (rdsF g3 rfl)
  have D3 := Lib.hid (rdsF g4 rfl)
  have e := chs_t px py qx qy mx my nx ny
  have e0 : (tw0 px py qx qy mx my nx ny).t = sq2 (nX mx my nx ny px py - px) (nY mx my nx ny px py - py) := rfl
  have e1 : (tw1 px py qx qy mx my nx ny).t = sq2 (nX mx my nx ny qx qy - qx) (nY mx my nx ny qx qy - qy) := rfl
  have e2 : (tw2 px py qx qy mx my nx ny).t = sq2 (nX px py qx qy mx my - mx) (nY px py qx qy mx my - my) := sq2_neg _ _ _ _
  have e3 : (tw3 px py qx qy mx my nx ny).t = sq2 (nX px py qx qy nx ny - nx) (nY px py qx qy nx ny - ny) := sq2_neg _ _ _ _
  rw [e0, e1, e2, e3] at e
  have ends := chs_end px py qx qy mx my nx ny
  generalize chs px py qx qy mx my nx ny = x at *
  obtain ⟨xa, xb, xc, xd, t⟩ := x
  dsimp only at e ends C1 C2 R2
  refine sll_main AW px py qx qy mx my nx ny xa xb xc xd t _ _ _ _ _ _ _ _ RR (Lib.hid C1) (Lib.hid C2) (Lib.hid R2) D0 D1 D2 D3 (decide_eq_false (by omega)) (decide_eq_false (by omega)) (decide_eq_false (by omega)) (decide_eq_false (by omega)) rfl rfl rfl rfl ?_ w
  simp only [Bool.or_eq_true, decide_eq_true_eq]
  rcases ends with q | q | q | q
  · exact .inl (.inl (.inl q))
  · exact .inl (.inl (.inr q))
  · exact .inl (.inr q)
  · exact .inr q
/-- The law SegmentLeast. -/
theorem sll_law (O : SOps) (AW : SAwake) (px py qx qy mx my nx ny : Int) (w : World) : Calls Try.prog 4 #[.agg #[.int .i32 px, .int .i32 py], .agg #[.int .i32 qx, .int .i32 qy], .agg #[.int .i32 mx, .int .i32 my], .agg #[.int .i32 nx, .int .i32 ny]] w fun e w' => e = .returned (.bool true) ∧ Kep w.heap.size w w' := by
  cases hr : sgB px py qx qy mx my nx ny
  · exact sll_bad (Lib.hid AW) px py qx qy mx my nx ny hr w
  · exact sll_ok O (Lib.hid AW) px py qx qy mx my nx ny hr w
end Go.Proofs.Ytadbpfmgdjegoaa
