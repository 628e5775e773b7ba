/-
  Package box: the reference's Overlap.
-/
import Derived.Test.YtnmnbogjnjbopaaDoorBoxAll
namespace Go.Proofs.YtnmnbogjnjbopaaDoor
open Go.RowKit Go.Lib

set_option maxRecDepth 100000 in
set_option maxHeartbeats 2000000 in
theorem rov (xa ya za ta xb yb zb tb : Int) (z : Bool) (hz : ovlB xa ya za ta xb yb zb tb = z) : ROv xa ya za ta xb yb zb tb z := fun w => by
  have C1 := Lib.hid (rem xa ya za ta _ rfl)
  have C2 := Lib.hid (rem xb yb zb tb _ rfl)
  by_cases p1 : za < xa ∨ ta < ya
  · rw [show empB xa ya za ta = true from decide_eq_true p1] at C1
    obtain rfl : false = z := by rw [← hz]; unfold ovlB; exact (decide_eq_false (by omega)).symm
    clear hz
    go_enter Tryd.func24, Tryd.ntmps24
    go_wp2_with (first
      | ((with_reducible refine (C1.out _).mono ?_); rintro e w1 ⟨rfl, g1⟩
         have p0 := kept_cell g1 (b := w.heap.size) (o := 0) (v := .int .i32 xa) (by (repeat (first | rw [World.cell?_drew] | rw [World.cell?_alloc_past _ _ _ (by first | (simp; done) | (simp; omega))])); rw [World.cell?_alloc_at _ _ _ _ (by simp)]; rfl)
         have p1 := kept_cell g1 (b := w.heap.size) (o := 1) (v := .int .i32 ya) (by (repeat (first | rw [World.cell?_drew] | rw [World.cell?_alloc_past _ _ _ (by first | (simp; done) | (simp; omega))])); rw [World.cell?_alloc_at _ _ _ _ (by simp)]; rfl)
         have p2 := kept_cell g1 (b := w.heap.size) (o := 2) (v := .int .i32 za) (by (repeat (first | rw [World.cell?_drew] | rw [World.cell?_alloc_past _ _ _ (by first | (simp; done) | (simp; omega))])); rw [World.cell?_alloc_at _ _ _ _ (by simp)]; rfl)
         have p3 := kept_cell g1 (b := w.heap.size) (o := 3) (v := .int .i32 ta) (by (repeat (first | rw [World.cell?_drew] | rw [World.cell?_alloc_past _ _ _ (by first | (simp; done) | (simp; omega))])); rw [World.cell?_alloc_at _ _ _ _ (by simp)]; rfl)
         have q0 := kept_cell g1 (b := w.heap.size + 1) (o := 0) (v := .int .i32 xb) (by (repeat (first | rw [World.cell?_drew] | rw [World.cell?_alloc_past _ _ _ (by first | (simp; done) | (simp; omega))])); rw [World.cell?_alloc_at _ _ _ _ (by simp)]; rfl)
         have q1 := kept_cell g1 (b := w.heap.size + 1) (o := 1) (v := .int .i32 yb) (by (repeat (first | rw [World.cell?_drew] | rw [World.cell?_alloc_past _ _ _ (by first | (simp; done) | (simp; omega))])); rw [World.cell?_alloc_at _ _ _ _ (by simp)]; rfl)
         have q2 := kept_cell g1 (b := w.heap.size + 1) (o := 2) (v := .int .i32 zb) (by (repeat (first | rw [World.cell?_drew] | rw [World.cell?_alloc_past _ _ _ (by first | (simp; done) | (simp; omega))])); rw [World.cell?_alloc_at _ _ _ _ (by simp)]; rfl)
         have q3 := kept_cell g1 (b := w.heap.size + 1) (o := 3) (v := .int .i32 tb) (by (repeat (first | rw [World.cell?_drew] | rw [World.cell?_alloc_past _ _ _ (by first | (simp; done) | (simp; omega))])); rw [World.cell?_alloc_at _ _ _ _ (by simp)]; rfl)
         have gg := grown_trans (((Grown.refl _).alloc _ _).alloc _ _) g1
         have zp_w1 : w.heap.size < w1.heap.size := World.block_lt_of_cell? _ _ p0
         have zq_w1 : w.heap.size + 1 < w1.heap.size := World.block_lt_of_cell? _ _ q0)
      | ((with_reducible refine (C2.out _).mono ?_); rintro e w2 ⟨rfl, g2⟩
         replace p0 := kept_cell g2 (b := w.heap.size) (o := 0) (v := .int .i32 xa) p0
         replace p1 := kept_cell g2 (b := w.heap.size) (o := 1) (v := .int .i32 ya) p1
         replace p2 := kept_cell g2 (b := w.heap.size) (o := 2) (v := .int .i32 za) p2
         replace p3 := kept_cell g2 (b := w.heap.size) (o := 3) (v := .int .i32 ta) p3
         replace q0 := kept_cell g2 (b := w.heap.size + 1) (o := 0) (v := .int .i32 xb) q0
         replace q1 := kept_cell g2 (b := w.heap.size + 1) (o := 1) (v := .int .i32 yb) q1
         replace q2 := kept_cell g2 (b := w.heap.size + 1) (o := 2) (v := .int .i32 zb) q2
         replace q3 := kept_cell g2 (b := w.heap.size + 1) (o := 3) (v := .int .i32 tb) q3
         replace gg := grown_trans gg g2))
    go_ret
    exact ⟨rfl, gg⟩
  rw [show empB xa ya za ta = false from decide_eq_false p1] at C1
  by_cases p2 : zb < xb ∨ tb < yb
  · rw [show empB xb yb zb tb = true from decide_eq_true p2] at C2
    obtain rfl : false = z := by rw [← hz]; unfold ovlB; exact (decide_eq_false (by omega)).symm
    clear hz
    go_enter Tryd.func24, Tryd.ntmps24
    go_wp2_with (first
      | ((with_reducible refine (C1.out _).mono ?_); rintro e w1 ⟨rfl, g1⟩
         have p0 := kept_cell g1 (b := w.heap.size) (o := 0) (v := .int .i32 xa) (by (repeat (first | rw [World.cell?_drew] | rw [World.cell?_alloc_past _ _ _ (by first | (simp; done) | (simp; omega))])); rw [World.cell?_alloc_at _ _ _ _ (by simp)]; rfl)
         have p1 := kept_cell g1 (b := w.heap.size) (o := 1) (v := .int .i32 ya) (by (repeat (first | rw [World.cell?_drew] | rw [World.cell?_alloc_past _ _ _ (by first | (simp; done) | (simp; omega))])); rw [World.cell?_alloc_at _ _ _ _ (by simp)]; rfl)
         have p2 := kept_cell g1 (b := w.heap.size) (o := 2) (v := .int .i32 za) (by (repeat (first | rw [World.cell?_drew] | rw [World.cell?_alloc_past _ _ _ (by first | (simp; done) | (simp; omega))])); rw [World.cell?_alloc_at _ _ _ _ (by simp)]; rfl)
         have p3 := kept_cell g1 (b := w.heap.size) (o := 3) (v := .int .i32 ta) (by (repeat (first | rw [World.cell?_drew] | rw [World.cell?_alloc_past _ _ _ (by first | (simp; done) | (simp; omega))])); rw [World.cell?_alloc_at _ _ _ _ (by simp)]; rfl)
         have q0 := kept_cell g1 (b := w.heap.size + 1) (o := 0) (v := .int .i32 xb) (by (repeat (first | rw [World.cell?_drew] | rw [World.cell?_alloc_past _ _ _ (by first | (simp; done) | (simp; omega))])); rw [World.cell?_alloc_at _ _ _ _ (by simp)]; rfl)
         have q1 := kept_cell g1 (b := w.heap.size + 1) (o := 1) (v := .int .i32 yb) (by (repeat (first | rw [World.cell?_drew] | rw [World.cell?_alloc_past _ _ _ (by first | (simp; done) | (simp; omega))])); rw [World.cell?_alloc_at _ _ _ _ (by simp)]; rfl)
         have q2 := kept_cell g1 (b := w.heap.size + 1) (o := 2) (v := .int .i32 zb) (by (repeat (first | rw [World.cell?_drew] | rw [World.cell?_alloc_past _ _ _ (by first | (simp; done) | (simp; omega))])); rw [World.cell?_alloc_at _ _ _ _ (by simp)]; rfl)
         have q3 := kept_cell g1 (b := w.heap.size + 1) (o := 3) (v := .int .i32 tb) (by (repeat (first | rw [World.cell?_drew] | rw [World.cell?_alloc_past _ _ _ (by first | (simp; done) | (simp; omega))])); rw [World.cell?_alloc_at _ _ _ _ (by simp)]; rfl)
         have gg := grown_trans (((Grown.refl _).alloc _ _).alloc _ _) g1
         have zp_w1 : w.heap.size < w1.heap.size := World.block_lt_of_cell? _ _ p0
         have zq_w1 : w.heap.size + 1 < w1.heap.size := World.block_lt_of_cell? _ _ q0)
      | ((with_reducible refine (C2.out _).mono ?_); rintro e w2 ⟨rfl, g2⟩
         replace p0 := kept_cell g2 (b := w.heap.size) (o := 0) (v := .int .i32 xa) p0
         replace p1 := kept_cell g2 (b := w.heap.size) (o := 1) (v := .int .i32 ya) p1
         replace p2 := kept_cell g2 (b := w.heap.size) (o := 2) (v := .int .i32 za) p2
         replace p3 := kept_cell g2 (b := w.heap.size) (o := 3) (v := .int .i32 ta) p3
         replace q0 := kept_cell g2 (b := w.heap.size + 1) (o := 0) (v := .int .i32 xb) q0
         replace q1 := kept_cell g2 (b := w.heap.size + 1) (o := 1) (v := .int .i32 yb) q1
         replace q2 := kept_cell g2 (b := w.heap.size + 1) (o := 2) (v := .int .i32 zb) q2
         replace q3 := kept_cell g2 (b := w.heap.size + 1) (o := 3) (v := .int .i32 tb) q3
         replace gg := grown_trans gg g2))
    go_ret
    exact ⟨rfl, gg⟩
  rw [show empB xb yb zb tb = false from decide_eq_false p2] at C2
  by_cases k0 : xa ≤ zb
  rotate_left
  · have d0 : decide (xa ≤ zb) = false := decide_eq_false k0
    obtain rfl : false = z := by rw [← hz]; unfold ovlB; exact (decide_eq_false (by omega)).symm
    clear hz
    go_enter Tryd.func24, Tryd.ntmps24
    go_wp2_with (first
      | ((with_reducible refine (C1.out _).mono ?_); rintro e w1 ⟨rfl, g1⟩
         have p0 := kept_cell g1 (b := w.heap.size) (o := 0) (v := .int .i32 xa) (by (repeat (first | rw [World.cell?_drew] | rw [World.cell?_alloc_past _ _ _ (by first | (simp; done) | (simp; omega))])); rw [World.cell?_alloc_at _ _ _ _ (by simp)]; rfl)
         have p1 := kept_cell g1 (b := w.heap.size) (o := 1) (v := .int .i32 ya) (by (repeat (first | rw [World.cell?_drew] | rw [World.cell?_alloc_past _ _ _ (by first | (simp; done) | (simp; omega))])); rw [World.cell?_alloc_at _ _ _ _ (by simp)]; rfl)
         have p2 := kept_cell g1 (b := w.heap.size) (o := 2) (v := .int .i32 za) (by (repeat (first | rw [World.cell?_drew] | rw [World.cell?_alloc_past _ _ _ (by first | (simp; done) | (simp; omega))])); rw [World.cell?_alloc_at _ _ _ _ (by simp)]; rfl)
         have p3 := kept_cell g1 (b := w.heap.size) (o := 3) (v := .int .i32 ta) (by (repeat (first | rw [World.cell?_drew] | rw [World.cell?_alloc_past _ _ _ (by first | (simp; done) | (simp; omega))])); rw [World.cell?_alloc_at _ _ _ _ (by simp)]; rfl)
         have q0 := kept_cell g1 (b := w.heap.size + 1) (o := 0) (v := .int .i32 xb) (by (repeat (first | rw [World.cell?_drew] | rw [World.cell?_alloc_past _ _ _ (by first | (simp; done) | (simp; omega))])); rw [World.cell?_alloc_at _ _ _ _ (by simp)]; rfl)
         have q1 := kept_cell g1 (b := w.heap.size + 1) (o := 1) (v := .int .i32 yb) (by (repeat (first | rw [World.cell?_drew] | rw [World.cell?_alloc_past _ _ _ (by first | (simp; done) | (simp; omega))])); rw [World.cell?_alloc_at _ _ _ _ (by simp)]; rfl)
         have q2 := kept_cell g1 (b := w.heap.size + 1) (o := 2) (v := .int .i32 zb) (by (repeat (first | rw [World.cell?_drew] | rw [World.cell?_alloc_past _ _ _ (by first | (simp; done) | (simp; omega))])); rw [World.cell?_alloc_at _ _ _ _ (by simp)]; rfl)
         have q3 := kept_cell g1 (b := w.heap.size + 1) (o := 3) (v := .int .i32 tb) (by (repeat (first | rw [World.cell?_drew] | rw [World.cell?_alloc_past _ _ _ (by first | (simp; done) | (simp; omega))])); rw [World.cell?_alloc_at _ _ _ _ (by simp)]; rfl)
         have gg := grown_trans (((Grown.refl _).alloc _ _).alloc _ _) g1
         have zp_w1 : w.heap.size < w1.heap.size := World.block_lt_of_cell? _ _ p0
         have zq_w1 : w.heap.size + 1 < w1.heap.size := World.block_lt_of_cell? _ _ q0)
      | ((with_reducible refine (C2.out _).mono ?_); rintro e w2 ⟨rfl, g2⟩
         replace p0 := kept_cell g2 (b := w.heap.size) (o := 0) (v := .int .i32 xa) p0
         replace p1 := kept_cell g2 (b := w.heap.size) (o := 1) (v := .int .i32 ya) p1
         replace p2 := kept_cell g2 (b := w.heap.size) (o := 2) (v := .int .i32 za) p2
         replace p3 := kept_cell g2 (b := w.heap.size) (o := 3) (v := .int .i32 ta) p3
         replace q0 := kept_cell g2 (b := w.heap.size + 1) (o := 0) (v := .int .i32 xb) q0
         replace q1 := kept_cell g2 (b := w.heap.size + 1) (o := 1) (v := .int .i32 yb) q1
         replace q2 := kept_cell g2 (b := w.heap.size + 1) (o := 2) (v := .int .i32 zb) q2
         replace q3 := kept_cell g2 (b := w.heap.size + 1) (o := 3) (v := .int .i32 tb) q3
         replace gg := grown_trans gg g2))
    go_ret
    exact ⟨rfl, gg⟩
  have d0 : decide (xa ≤ zb) = true := decide_eq_true k0
  by_cases k1 : xb ≤ za
  rotate_left
  · have d1 : decide (xb ≤ za) = false := decide_eq_false k1
    obtain rfl : false = z := by rw [← hz]; unfold ovlB; exact (decide_eq_false (by omega)).symm
    clear hz
    go_enter Tryd.func24, Tryd.ntmps24
    go_wp2_with (first
      | ((with_reducible refine (C1.out _).mono ?_); rintro e w1 ⟨rfl, g1⟩
         have p0 := kept_cell g1 (b := w.heap.size) (o := 0) (v := .int .i32 xa) (by (repeat (first | rw [World.cell?_drew] | rw [World.cell?_alloc_past _ _ _ (by first | (simp; done) | (simp; omega))])); rw [World.cell?_alloc_at _ _ _ _ (by simp)]; rfl)
         have p1 := kept_cell g1 (b := w.heap.size) (o := 1) (v := .int .i32 ya) (by (repeat (first | rw [World.cell?_drew] | rw [World.cell?_alloc_past _ _ _ (by first | (simp; done) | (simp; omega))])); rw [World.cell?_alloc_at _ _ _ _ (by simp)]; rfl)
         have p2 := kept_cell g1 (b := w.heap.size) (o := 2) (v := .int .i32 za) (by (repeat (first | rw [World.cell?_drew] | rw [World.cell?_alloc_past _ _ _ (by first | (simp; done) | (simp; omega))])); rw [World.cell?_alloc_at _ _ _ _ (by simp)]; rfl)
         have p3 := kept_cell g1 (b := w.heap.size) (o := 3) (v := .int .i32 ta) (by (repeat (first | rw [World.cell?_drew] | rw [World.cell?_alloc_past _ _ _ (by first | (simp; done) | (simp; omega))])); rw [World.cell?_alloc_at _ _ _ _ (by simp)]; rfl)
         have q0 := kept_cell g1 (b := w.heap.size + 1) (o := 0) (v := .int .i32 xb) (by (repeat (first | rw [World.cell?_drew] | rw [World.cell?_alloc_past _ _ _ (by first | (simp; done) | (simp; omega))])); rw [World.cell?_alloc_at _ _ _ _ (by simp)]; rfl)
         have q1 := kept_cell g1 (b := w.heap.size + 1) (o := 1) (v := .int .i32 yb) (by (repeat (first | rw [World.cell?_drew] | rw [World.cell?_alloc_past _ _ _ (by first | (simp; done) | (simp; omega))])); rw [World.cell?_alloc_at _ _ _ _ (by simp)]; rfl)
         have q2 := kept_cell g1 (b := w.heap.size + 1) (o := 2) (v := .int .i32 zb) (by (repeat (first | rw [World.cell?_drew] | rw [World.cell?_alloc_past _ _ _ (by first | (simp; done) | (simp; omega))])); rw [World.cell?_alloc_at _ _ _ _ (by simp)]; rfl)
         have q3 := kept_cell g1 (b := w.heap.size + 1) (o := 3) (v := .int .i32 tb) (by (repeat (first | rw [World.cell?_drew] | rw [World.cell?_alloc_past _ _ _ (by first | (simp; done) | (simp; omega))])); rw [World.cell?_alloc_at _ _ _ _ (by simp)]; rfl)
         have gg := grown_trans (((Grown.refl _).alloc _ _).alloc _ _) g1
         have zp_w1 : w.heap.size < w1.heap.size := World.block_lt_of_cell? _ _ p0
         have zq_w1 : w.heap.size + 1 < w1.heap.size := World.block_lt_of_cell? _ _ q0)
      | ((with_reducible refine (C2.out _).mono ?_); rintro e w2 ⟨rfl, g2⟩
         replace p0 := kept_cell g2 (b := w.heap.size) (o := 0) (v := .int .i32 xa) p0
         replace p1 := kept_cell g2 (b := w.heap.size) (o := 1) (v := .int .i32 ya) p1
         replace p2 := kept_cell g2 (b := w.heap.size) (o := 2) (v := .int .i32 za) p2
         replace p3 := kept_cell g2 (b := w.heap.size) (o := 3) (v := .int .i32 ta) p3
         replace q0 := kept_cell g2 (b := w.heap.size + 1) (o := 0) (v := .int .i32 xb) q0
         replace q1 := kept_cell g2 (b := w.heap.size + 1) (o := 1) (v := .int .i32 yb) q1
         replace q2 := kept_cell g2 (b := w.heap.size + 1) (o := 2) (v := .int .i32 zb) q2
         replace q3 := kept_cell g2 (b := w.heap.size + 1) (o := 3) (v := .int .i32 tb) q3
         replace gg := grown_trans gg g2))
    go_ret
    exact ⟨rfl, gg⟩
  have d1 : decide (xb ≤ za) = true := decide_eq_true k1
  by_cases k2 : ya ≤ tb
  rotate_left
  · have d2 : decide (ya ≤ tb) = false := decide_eq_false k2
    obtain rfl : false = z := by rw [← hz]; unfold ovlB; exact (decide_eq_false (by omega)).symm
    clear hz
    go_enter Tryd.func24, Tryd.ntmps24
    go_wp2_with (first
      | ((with_reducible refine (C1.out _).mono ?_); rintro e w1 ⟨rfl, g1⟩
         have p0 := kept_cell g1 (b := w.heap.size) (o := 0) (v := .int .i32 xa) (by (repeat (first | rw [World.cell?_drew] | rw [World.cell?_alloc_past _ _ _ (by first | (simp; done) | (simp; omega))])); rw [World.cell?_alloc_at _ _ _ _ (by simp)]; rfl)
         have p1 := kept_cell g1 (b := w.heap.size) (o := 1) (v := .int .i32 ya) (by (repeat (first | rw [World.cell?_drew] | rw [World.cell?_alloc_past _ _ _ (by first | (simp; done) | (simp; omega))])); rw [World.cell?_alloc_at _ _ _ _ (by simp)]; rfl)
         have p2 := kept_cell g1 (b := w.heap.size) (o := 2) (v := .int .i32 za) (by (repeat (first | rw [World.cell?_drew] | rw [World.cell?_alloc_past _ _ _ (by first | (simp; done) | (simp; omega))])); rw [World.cell?_alloc_at _ _ _ _ (by simp)]; rfl)
         have p3 := kept_cell g1 (b := w.heap.size) (o := 3) (v := .int .i32 ta) (by (repeat (first | rw [World.cell?_drew] | rw [World.cell?_alloc_past _ _ _ (by first | (simp; done) | (simp; omega))])); rw [World.cell?_alloc_at _ _ _ _ (by simp)]; rfl)
         have q0 := kept_cell g1 (b := w.heap.size + 1) (o := 0) (v := .int .i32 xb) (by (repeat (first | rw [World.cell?_drew] | rw [World.cell?_alloc_past _ _ _ (by first | (simp; done) | (simp; omega))])); rw [World.cell?_alloc_at _ _ _ _ (by simp)]; rfl)
         have q1 := kept_cell g1 (b := w.heap.size + 1) (o := 1) (v := .int .i32 yb) (by (repeat (first | rw [World.cell?_drew] | rw [World.cell?_alloc_past _ _ _ (by first | (simp; done) | (simp; omega))])); rw [World.cell?_alloc_at _ _ _ _ (by simp)]; rfl)
         have q2 := kept_cell g1 (b := w.heap.size + 1) (o := 2) (v := .int .i32 zb) (by (repeat (first | rw [World.cell?_drew] | rw [World.cell?_alloc_past _ _ _ (by first | (simp; done) | (simp; omega))])); rw [World.cell?_alloc_at _ _ _ _ (by simp)]; rfl)
         have q3 := kept_cell g1 (b := w.heap.size + 1) (o := 3) (v := .int .i32 tb) (by (repeat (first | rw [World.cell?_drew] | rw [World.cell?_alloc_past _ _ _ (by first | (simp; done) | (simp; omega))])); rw [World.cell?_alloc_at _ _ _ _ (by simp)]; rfl)
         have gg := grown_trans (((Grown.refl _).alloc _ _).alloc _ _) g1
         have zp_w1 : w.heap.size < w1.heap.size := World.block_lt_of_cell? _ _ p0
         have zq_w1 : w.heap.size + 1 < w1.heap.size := World.block_lt_of_cell? _ _ q0)
      | ((with_reducible refine (C2.out _).mono ?_); rintro e w2 ⟨rfl, g2⟩
         replace p0 := kept_cell g2 (b := w.heap.size) (o := 0) (v := .int .i32 xa) p0
         replace p1 := kept_cell g2 (b := w.heap.size) (o := 1) (v := .int .i32 ya) p1
         replace p2 := kept_cell g2 (b := w.heap.size) (o := 2) (v := .int .i32 za) p2
         replace p3 := kept_cell g2 (b := w.heap.size) (o := 3) (v := .int .i32 ta) p3
         replace q0 := kept_cell g2 (b := w.heap.size + 1) (o := 0) (v := .int .i32 xb) q0
         replace q1 := kept_cell g2 (b := w.heap.size + 1) (o := 1) (v := .int .i32 yb) q1
         replace q2 := kept_cell g2 (b := w.heap.size + 1) (o := 2) (v := .int .i32 zb) q2
         replace q3 := kept_cell g2 (b := w.heap.size + 1) (o := 3) (v := .int .i32 tb) q3
         replace gg := grown_trans gg g2))
    go_ret
    exact ⟨rfl, gg⟩
  have d2 : decide (ya ≤ tb) = true := decide_eq_true k2
  by_cases k3 : yb ≤ ta
  rotate_left
  · have d3 : decide (yb ≤ ta) = false := decide_eq_false k3
    obtain rfl : false = z := by rw [← hz]; unfold ovlB; exact (decide_eq_false (by omega)).symm
    clear hz
    go_enter Tryd.func24, Tryd.ntmps24
    go_wp2_with (first
      | ((with_reducible refine (C1.out _).mono ?_); rintro e w1 ⟨rfl, g1⟩
         have p0 := kept_cell g1 (b := w.heap.size) (o := 0) (v := .int .i32 xa) (by (repeat (first | rw [World.cell?_drew] | rw [World.cell?_alloc_past _ _ _ (by first | (simp; done) | (simp; omega))])); rw [World.cell?_alloc_at _ _ _ _ (by simp)]; rfl)
         have p1 := kept_cell g1 (b := w.heap.size) (o := 1) (v := .int .i32 ya) (by (repeat (first | rw [World.cell?_drew] | rw [World.cell?_alloc_past _ _ _ (by first | (simp; done) | (simp; omega))])); rw [World.cell?_alloc_at _ _ _ _ (by simp)]; rfl)
         have p2 := kept_cell g1 (b := w.heap.size) (o := 2) (v := .int .i32 za) (by (repeat (first | rw [World.cell?_drew] | rw [World.cell?_alloc_past _ _ _ (by first | (simp; done) | (simp; omega))])); rw [World.cell?_alloc_at _ _ _ _ (by simp)]; rfl)
         have p3 := kept_cell g1 (b := w.heap.size) (o := 3) (v := .int .i32 ta) (by (repeat (first | rw [World.cell?_drew] | rw [World.cell?_alloc_past _ _ _ (by first | (simp; done) | (simp; omega))])); rw [World.cell?_alloc_at _ _ _ _ (by simp)]; rfl)
         have q0 := kept_cell g1 (b := w.heap.size + 1) (o := 0) (v := .int .i32 xb) (by (repeat (first | rw [World.cell?_drew] | rw [World.cell?_alloc_past _ _ _ (by first | (simp; done) | (simp; omega))])); rw [World.cell?_alloc_at _ _ _ _ (by simp)]; rfl)
         have q1 := kept_cell g1 (b := w.heap.size + 1) (o := 1) (v := .int .i32 yb) (by (repeat (first | rw [World.cell?_drew] | rw [World.cell?_alloc_past _ _ _ (by first | (simp; done) | (simp; omega))])); rw [World.cell?_alloc_at _ _ _ _ (by simp)]; rfl)
         have q2 := kept_cell g1 (b := w.heap.size + 1) (o := 2) (v := .int .i32 zb) (by (repeat (first | rw [World.cell?_drew] | rw [World.cell?_alloc_past _ _ _ (by first | (simp; done) | (simp; omega))])); rw [World.cell?_alloc_at _ _ _ _ (by simp)]; rfl)
         have q3 := kept_cell g1 (b := w.heap.size + 1) (o := 3) (v := .int .i32 tb) (by (repeat (first | rw [World.cell?_drew] | rw [World.cell?_alloc_past _ _ _ (by first | (simp; done) | (simp; omega))])); rw [World.cell?_alloc_at _ _ _ _ (by simp)]; rfl)
         have gg := grown_trans (((Grown.refl _).alloc _ _).alloc _ _) g1
         have zp_w1 : w.heap.size < w1.heap.size := World.block_lt_of_cell? _ _ p0
         have zq_w1 : w.heap.size + 1 < w1.heap.size := World.block_lt_of_cell? _ _ q0)
      | ((with_reducible refine (C2.out _).mono ?_); rintro e w2 ⟨rfl, g2⟩
         replace p0 := kept_cell g2 (b := w.heap.size) (o := 0) (v := .int .i32 xa) p0
         replace p1 := kept_cell g2 (b := w.heap.size) (o := 1) (v := .int .i32 ya) p1
         replace p2 := kept_cell g2 (b := w.heap.size) (o := 2) (v := .int .i32 za) p2
         replace p3 := kept_cell g2 (b := w.heap.size) (o := 3) (v := .int .i32 ta) p3
         replace q0 := kept_cell g2 (b := w.heap.size + 1) (o := 0) (v := .int .i32 xb) q0
         replace q1 := kept_cell g2 (b := w.heap.size + 1) (o := 1) (v := .int .i32 yb) q1
         replace q2 := kept_cell g2 (b := w.heap.size + 1) (o := 2) (v := .int .i32 zb) q2
         replace q3 := kept_cell g2 (b := w.heap.size + 1) (o := 3) (v := .int .i32 tb) q3
         replace gg := grown_trans gg g2))
    go_ret
    exact ⟨rfl, gg⟩
  have d3 : decide (yb ≤ ta) = true := decide_eq_true k3
  obtain rfl : true = z := by rw [← hz]; unfold ovlB; exact (decide_eq_true (by omega)).symm
  clear hz
  go_enter Tryd.func24, Tryd.ntmps24
  go_wp2_with (first
    | ((with_reducible refine (C1.out _).mono ?_); rintro e w1 ⟨rfl, g1⟩
       have p0 := kept_cell g1 (b := w.heap.size) (o := 0) (v := .int .i32 xa) (by (repeat (first | rw [World.cell?_drew] | rw [World.cell?_alloc_past _ _ _ (by first | (simp; done) | (simp; omega))])); rw [World.cell?_alloc_at _ _ _ _ (by simp)]; rfl)
       have p1 := kept_cell g1 (b := w.heap.size) (o := 1) (v := .int .i32 ya) (by (repeat (first | rw [World.cell?_drew] | rw [World.cell?_alloc_past _ _ _ (by first | (simp; done) | (simp; omega))])); rw [World.cell?_alloc_at _ _ _ _ (by simp)]; rfl)
       have p2 := kept_cell g1 (b := w.heap.size) (o := 2) (v := .int .i32 za) (by (repeat (first | rw [World.cell?_drew] | rw [World.cell?_alloc_past _ _ _ (by first | (simp; done) | (simp; omega))])); rw [World.cell?_alloc_at _ _ _ _ (by simp)]; rfl)
       have p3 := kept_cell g1 (b := w.heap.size) (o := 3) (v := .int .i32 ta) (by (repeat (first | rw [World.cell?_drew] | rw [World.cell?_alloc_past _ _ _ (by first | (simp; done) | (simp; omega))])); rw [World.cell?_alloc_at _ _ _ _ (by simp)]; rfl)
       have q0 := kept_cell g1 (b := w.heap.size + 1) (o := 0) (v := .int .i32 xb) (by (repeat (first | rw [World.cell?_drew] | rw [World.cell?_alloc_past _ _ _ (by first | (simp; done) | (simp; omega))])); rw [World.cell?_alloc_at _ _ _ _ (by simp)]; rfl)
       have q1 := kept_cell g1 (b := w.heap.size + 1) (o := 1) (v := .int .i32 yb) (by (repeat (first | rw [World.cell?_drew] | rw [World.cell?_alloc_past _ _ _ (by first | (simp; done) | (simp; omega))])); rw [World.cell?_alloc_at _ _ _ _ (by simp)]; rfl)
       have q2 := kept_cell g1 (b := w.heap.size + 1) (o := 2) (v := .int .i32 zb) (by (repeat (first | rw [World.cell?_drew] | rw [World.cell?_alloc_past _ _ _ (by first | (simp; done) | (simp; omega))])); rw [World.cell?_alloc_at _ _ _ _ (by simp)]; rfl)
       have q3 := kept_cell g1 (b := w.heap.size + 1) (o := 3) (v := .int .i32 tb) (by (repeat (first | rw [World.cell?_drew] | rw [World.cell?_alloc_past _ _ _ (by first | (simp; done) | (simp; omega))])); rw [World.cell?_alloc_at _ _ _ _ (by simp)]; rfl)
       have gg := grown_trans (((Grown.refl _).alloc _ _).alloc _ _) g1
       have zp_w1 : w.heap.size < w1.heap.size := World.block_lt_of_cell? _ _ p0
       have zq_w1 : w.heap.size + 1 < w1.heap.size := World.block_lt_of_cell? _ _ q0)
    | ((with_reducible refine (C2.out _).mono ?_); rintro e w2 ⟨rfl, g2⟩
       replace p0 := kept_cell g2 (b := w.heap.size) (o := 0) (v := .int .i32 xa) p0
       replace p1 := kept_cell g2 (b := w.heap.size) (o := 1) (v := .int .i32 ya) p1
       replace p2 := kept_cell g2 (b := w.heap.size) (o := 2) (v := .int .i32 za) p2
       replace p3 := kept_cell g2 (b := w.heap.size) (o := 3) (v := .int .i32 ta) p3
       replace q0 := kept_cell g2 (b := w.heap.size + 1) (o := 0) (v := .int .i32 xb) q0
       replace q1 := kept_cell g2 (b := w.heap.size + 1) (o := 1) (v := .int .i32 yb) q1
       replace q2 := kept_cell g2 (b := w.heap.size + 1) (o := 2) (v := .int .i32 zb) q2
       replace q3 := kept_cell g2 (b := w.heap.size + 1) (o := 3) (v := .int .i32 tb) q3
       replace gg := grown_trans gg g2))
  go_ret
  exact ⟨rfl, gg⟩
end Go.Proofs.YtnmnbogjnjbopaaDoor
