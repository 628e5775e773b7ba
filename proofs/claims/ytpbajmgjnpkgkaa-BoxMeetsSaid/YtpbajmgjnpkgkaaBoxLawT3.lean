/-
  Package box: the law BoxMeets, some of its cases.
-/
import Derived.Test.YtpbajmgjnpkgkaaBoxLawS
import Derived.Deep.DeepCutAuto
namespace Go.Proofs.Ytpbajmgjnpkgkaa
open Go.RowKit Go.Lib

set_option maxRecDepth 100000 in
set_option maxHeartbeats 8000000 in
theorem btl_00110 (xa ya za ta xb yb zb tb x y u0 u1 u2 u3 : Int) (AW : Hid BAwake) (M1 : Hid (BMe xa ya za ta xb yb zb tb 1 0 0 0)) (U1 : Hid (BUn xa ya za ta xb yb zb tb u0 u1 u2 u3)) (K1 : Hid (BCo xa ya za ta x y true)) (K2 : Hid (BCo xb yb zb tb x y false)) (C3 : Hid (BCo 1 0 0 0 x y false)) (C4 : Hid (BCo u0 u1 u2 u3 x y true)) (O1 : Hid (BOv xa ya za ta xb yb zb tb false)) (E1 : Hid (BEm 1 0 0 0 true)) (RA : Hid (REm xa ya za ta false)) (RB : Hid (REm xb yb zb tb false)) (t0 : min xa xb = u0) (t1 : min ya yb = u1) (t2 : max za zb = u2) (t3 : max ta tb = u3) (w : World) :
    Calls Try.prog 5 #[.agg #[.int .i32 xa, .int .i32 ya, .int .i32 za, .int .i32 ta], .agg #[.int .i32 xb, .int .i32 yb, .int .i32 zb, .int .i32 tb], .agg #[.int .i32 x, .int .i32 y]] w fun e w' => e = .returned (.bool true) ∧ Grown w w' := by
  have F1 := Lib.hid (fwd xa ya za ta)
  have F2 := Lib.hid (fwd xb yb zb tb)
  have v1 := fun w => box_neq 1 0 0 0 w
  have y0 : (u0 == u0) = true := by simp
  have y1 : (u1 == u1) = true := by simp
  have y2 : (u2 == u2) = true := by simp
  have y3 : (u3 == u3) = true := by simp
  go_enter Try.func5, Try.ntmps5
  go_wp2_with (first
    | ((with_reducible refine (AW.out _).mono ?_); rintro e w1 ⟨rfl, g1⟩
       have p0 := kept_cell g1 (b := w.heap.size) (o := 0) (v := .int .i32 xa) (by (repeat (first | rw [World.cell?_drew] | rw [World.cell?_alloc_past _ _ _ (by first | (simp; done) | (simp; omega))])); rw [World.cell?_alloc_at _ _ _ _ (by simp)]; rfl)
       have p1 := kept_cell g1 (b := w.heap.size) (o := 1) (v := .int .i32 ya) (by (repeat (first | rw [World.cell?_drew] | rw [World.cell?_alloc_past _ _ _ (by first | (simp; done) | (simp; omega))])); rw [World.cell?_alloc_at _ _ _ _ (by simp)]; rfl)
       have p2 := kept_cell g1 (b := w.heap.size) (o := 2) (v := .int .i32 za) (by (repeat (first | rw [World.cell?_drew] | rw [World.cell?_alloc_past _ _ _ (by first | (simp; done) | (simp; omega))])); rw [World.cell?_alloc_at _ _ _ _ (by simp)]; rfl)
       have p3 := kept_cell g1 (b := w.heap.size) (o := 3) (v := .int .i32 ta) (by (repeat (first | rw [World.cell?_drew] | rw [World.cell?_alloc_past _ _ _ (by first | (simp; done) | (simp; omega))])); rw [World.cell?_alloc_at _ _ _ _ (by simp)]; rfl)
       have q0 := kept_cell g1 (b := w.heap.size + 1) (o := 0) (v := .int .i32 xb) (by (repeat (first | rw [World.cell?_drew] | rw [World.cell?_alloc_past _ _ _ (by first | (simp; done) | (simp; omega))])); rw [World.cell?_alloc_at _ _ _ _ (by simp)]; rfl)
       have q1 := kept_cell g1 (b := w.heap.size + 1) (o := 1) (v := .int .i32 yb) (by (repeat (first | rw [World.cell?_drew] | rw [World.cell?_alloc_past _ _ _ (by first | (simp; done) | (simp; omega))])); rw [World.cell?_alloc_at _ _ _ _ (by simp)]; rfl)
       have q2 := kept_cell g1 (b := w.heap.size + 1) (o := 2) (v := .int .i32 zb) (by (repeat (first | rw [World.cell?_drew] | rw [World.cell?_alloc_past _ _ _ (by first | (simp; done) | (simp; omega))])); rw [World.cell?_alloc_at _ _ _ _ (by simp)]; rfl)
       have q3 := kept_cell g1 (b := w.heap.size + 1) (o := 3) (v := .int .i32 tb) (by (repeat (first | rw [World.cell?_drew] | rw [World.cell?_alloc_past _ _ _ (by first | (simp; done) | (simp; omega))])); rw [World.cell?_alloc_at _ _ _ _ (by simp)]; rfl)
       have n0 := kept_cell g1 (b := w.heap.size + 1 + 1) (o := 0) (v := .int .i32 x) (by (repeat (first | rw [World.cell?_drew] | rw [World.cell?_alloc_past _ _ _ (by first | (simp; done) | (simp; omega))])); rw [World.cell?_alloc_at _ _ _ _ (by simp)]; rfl)
       have n1 := kept_cell g1 (b := w.heap.size + 1 + 1) (o := 1) (v := .int .i32 y) (by (repeat (first | rw [World.cell?_drew] | rw [World.cell?_alloc_past _ _ _ (by first | (simp; done) | (simp; omega))])); rw [World.cell?_alloc_at _ _ _ _ (by simp)]; rfl)
       have gg := grown_trans ((((Grown.refl _).alloc _ _).alloc _ _).alloc _ _) g1
       have zp_w1 : w.heap.size < w1.heap.size := World.block_lt_of_cell? _ _ p0
       have zq_w1 : w.heap.size + 1 < w1.heap.size := World.block_lt_of_cell? _ _ q0
       have zn_w1 : w.heap.size + 1 + 1 < w1.heap.size := World.block_lt_of_cell? _ _ n0)
    | ((with_reducible refine (F1.out _).mono ?_); rintro e w2 ⟨rfl, g2⟩
       replace p0 := kept_cell g2 (b := w.heap.size) (o := 0) (v := .int .i32 xa) p0
       replace p1 := kept_cell g2 (b := w.heap.size) (o := 1) (v := .int .i32 ya) p1
       replace p2 := kept_cell g2 (b := w.heap.size) (o := 2) (v := .int .i32 za) p2
       replace p3 := kept_cell g2 (b := w.heap.size) (o := 3) (v := .int .i32 ta) p3
       replace q0 := kept_cell g2 (b := w.heap.size + 1) (o := 0) (v := .int .i32 xb) q0
       replace q1 := kept_cell g2 (b := w.heap.size + 1) (o := 1) (v := .int .i32 yb) q1
       replace q2 := kept_cell g2 (b := w.heap.size + 1) (o := 2) (v := .int .i32 zb) q2
       replace q3 := kept_cell g2 (b := w.heap.size + 1) (o := 3) (v := .int .i32 tb) q3
       replace n0 := kept_cell g2 (b := w.heap.size + 1 + 1) (o := 0) (v := .int .i32 x) n0
       replace n1 := kept_cell g2 (b := w.heap.size + 1 + 1) (o := 1) (v := .int .i32 y) n1
       replace gg := grown_trans gg g2
       have zp_w2 : w.heap.size < w2.heap.size := World.block_lt_of_cell? _ _ p0
       have zq_w2 : w.heap.size + 1 < w2.heap.size := World.block_lt_of_cell? _ _ q0
       have zn_w2 : w.heap.size + 1 + 1 < w2.heap.size := World.block_lt_of_cell? _ _ n0)
    | ((with_reducible refine (F2.out _).mono ?_); rintro e w3 ⟨rfl, g3⟩
       replace p0 := kept_cell g3 (b := w.heap.size) (o := 0) (v := .int .i32 xa) (alloc_one p0)
       replace p1 := kept_cell g3 (b := w.heap.size) (o := 1) (v := .int .i32 ya) (alloc_one p1)
       replace p2 := kept_cell g3 (b := w.heap.size) (o := 2) (v := .int .i32 za) (alloc_one p2)
       replace p3 := kept_cell g3 (b := w.heap.size) (o := 3) (v := .int .i32 ta) (alloc_one p3)
       replace q0 := kept_cell g3 (b := w.heap.size + 1) (o := 0) (v := .int .i32 xb) (alloc_one q0)
       replace q1 := kept_cell g3 (b := w.heap.size + 1) (o := 1) (v := .int .i32 yb) (alloc_one q1)
       replace q2 := kept_cell g3 (b := w.heap.size + 1) (o := 2) (v := .int .i32 zb) (alloc_one q2)
       replace q3 := kept_cell g3 (b := w.heap.size + 1) (o := 3) (v := .int .i32 tb) (alloc_one q3)
       replace n0 := kept_cell g3 (b := w.heap.size + 1 + 1) (o := 0) (v := .int .i32 x) (alloc_one n0)
       replace n1 := kept_cell g3 (b := w.heap.size + 1 + 1) (o := 1) (v := .int .i32 y) (alloc_one n1)
       have r0 := kept_cell g3 (b := w2.heap.size) (o := 0) (v := .int .i32 xa) (by (repeat (first | rw [World.cell?_drew] | rw [World.cell?_alloc_past _ _ _ (by first | (simp; done) | (simp; omega))])); rw [World.cell?_alloc_at _ _ _ _ (by simp)]; rfl)
       have r1 := kept_cell g3 (b := w2.heap.size) (o := 1) (v := .int .i32 ya) (by (repeat (first | rw [World.cell?_drew] | rw [World.cell?_alloc_past _ _ _ (by first | (simp; done) | (simp; omega))])); rw [World.cell?_alloc_at _ _ _ _ (by simp)]; rfl)
       have r2 := kept_cell g3 (b := w2.heap.size) (o := 2) (v := .int .i32 za) (by (repeat (first | rw [World.cell?_drew] | rw [World.cell?_alloc_past _ _ _ (by first | (simp; done) | (simp; omega))])); rw [World.cell?_alloc_at _ _ _ _ (by simp)]; rfl)
       have r3 := kept_cell g3 (b := w2.heap.size) (o := 3) (v := .int .i32 ta) (by (repeat (first | rw [World.cell?_drew] | rw [World.cell?_alloc_past _ _ _ (by first | (simp; done) | (simp; omega))])); rw [World.cell?_alloc_at _ _ _ _ (by simp)]; rfl)
       replace gg := grown_trans (gg.alloc _ _) g3
       have zp_w3 : w.heap.size < w3.heap.size := World.block_lt_of_cell? _ _ p0
       have zq_w3 : w.heap.size + 1 < w3.heap.size := World.block_lt_of_cell? _ _ q0
       have zn_w3 : w.heap.size + 1 + 1 < w3.heap.size := World.block_lt_of_cell? _ _ n0
       have zr_w3 : w2.heap.size < w3.heap.size := World.block_lt_of_cell? _ _ r0)
    | ((with_reducible refine (M1.out _).mono ?_); rintro e w4 ⟨rfl, g4⟩
       replace p0 := kept_cell g4 (b := w.heap.size) (o := 0) (v := .int .i32 xa) (alloc_one p0)
       replace p1 := kept_cell g4 (b := w.heap.size) (o := 1) (v := .int .i32 ya) (alloc_one p1)
       replace p2 := kept_cell g4 (b := w.heap.size) (o := 2) (v := .int .i32 za) (alloc_one p2)
       replace p3 := kept_cell g4 (b := w.heap.size) (o := 3) (v := .int .i32 ta) (alloc_one p3)
       replace q0 := kept_cell g4 (b := w.heap.size + 1) (o := 0) (v := .int .i32 xb) (alloc_one q0)
       replace q1 := kept_cell g4 (b := w.heap.size + 1) (o := 1) (v := .int .i32 yb) (alloc_one q1)
       replace q2 := kept_cell g4 (b := w.heap.size + 1) (o := 2) (v := .int .i32 zb) (alloc_one q2)
       replace q3 := kept_cell g4 (b := w.heap.size + 1) (o := 3) (v := .int .i32 tb) (alloc_one q3)
       replace n0 := kept_cell g4 (b := w.heap.size + 1 + 1) (o := 0) (v := .int .i32 x) (alloc_one n0)
       replace n1 := kept_cell g4 (b := w.heap.size + 1 + 1) (o := 1) (v := .int .i32 y) (alloc_one n1)
       replace r0 := kept_cell g4 (b := w2.heap.size) (o := 0) (v := .int .i32 xa) (alloc_one r0)
       replace r1 := kept_cell g4 (b := w2.heap.size) (o := 1) (v := .int .i32 ya) (alloc_one r1)
       replace r2 := kept_cell g4 (b := w2.heap.size) (o := 2) (v := .int .i32 za) (alloc_one r2)
       replace r3 := kept_cell g4 (b := w2.heap.size) (o := 3) (v := .int .i32 ta) (alloc_one r3)
       have s0 := kept_cell g4 (b := w3.heap.size) (o := 0) (v := .int .i32 xb) (by (repeat (first | rw [World.cell?_drew] | rw [World.cell?_alloc_past _ _ _ (by first | (simp; done) | (simp; omega))])); rw [World.cell?_alloc_at _ _ _ _ (by simp)]; rfl)
       have s1 := kept_cell g4 (b := w3.heap.size) (o := 1) (v := .int .i32 yb) (by (repeat (first | rw [World.cell?_drew] | rw [World.cell?_alloc_past _ _ _ (by first | (simp; done) | (simp; omega))])); rw [World.cell?_alloc_at _ _ _ _ (by simp)]; rfl)
       have s2 := kept_cell g4 (b := w3.heap.size) (o := 2) (v := .int .i32 zb) (by (repeat (first | rw [World.cell?_drew] | rw [World.cell?_alloc_past _ _ _ (by first | (simp; done) | (simp; omega))])); rw [World.cell?_alloc_at _ _ _ _ (by simp)]; rfl)
       have s3 := kept_cell g4 (b := w3.heap.size) (o := 3) (v := .int .i32 tb) (by (repeat (first | rw [World.cell?_drew] | rw [World.cell?_alloc_past _ _ _ (by first | (simp; done) | (simp; omega))])); rw [World.cell?_alloc_at _ _ _ _ (by simp)]; rfl)
       replace gg := grown_trans (gg.alloc _ _) g4
       have zp_w4 : w.heap.size < w4.heap.size := World.block_lt_of_cell? _ _ p0
       have zq_w4 : w.heap.size + 1 < w4.heap.size := World.block_lt_of_cell? _ _ q0
       have zn_w4 : w.heap.size + 1 + 1 < w4.heap.size := World.block_lt_of_cell? _ _ n0
       have zr_w4 : w2.heap.size < w4.heap.size := World.block_lt_of_cell? _ _ r0
       have zs_w4 : w3.heap.size < w4.heap.size := World.block_lt_of_cell? _ _ s0)
    | ((with_reducible refine (U1.out _).mono ?_); rintro e w5 ⟨rfl, g5⟩
       replace p0 := kept_cell g5 (b := w.heap.size) (o := 0) (v := .int .i32 xa) (alloc_one p0)
       replace p1 := kept_cell g5 (b := w.heap.size) (o := 1) (v := .int .i32 ya) (alloc_one p1)
       replace p2 := kept_cell g5 (b := w.heap.size) (o := 2) (v := .int .i32 za) (alloc_one p2)
       replace p3 := kept_cell g5 (b := w.heap.size) (o := 3) (v := .int .i32 ta) (alloc_one p3)
       replace q0 := kept_cell g5 (b := w.heap.size + 1) (o := 0) (v := .int .i32 xb) (alloc_one q0)
       replace q1 := kept_cell g5 (b := w.heap.size + 1) (o := 1) (v := .int .i32 yb) (alloc_one q1)
       replace q2 := kept_cell g5 (b := w.heap.size + 1) (o := 2) (v := .int .i32 zb) (alloc_one q2)
       replace q3 := kept_cell g5 (b := w.heap.size + 1) (o := 3) (v := .int .i32 tb) (alloc_one q3)
       replace n0 := kept_cell g5 (b := w.heap.size + 1 + 1) (o := 0) (v := .int .i32 x) (alloc_one n0)
       replace n1 := kept_cell g5 (b := w.heap.size + 1 + 1) (o := 1) (v := .int .i32 y) (alloc_one n1)
       replace r0 := kept_cell g5 (b := w2.heap.size) (o := 0) (v := .int .i32 xa) (alloc_one r0)
       replace r1 := kept_cell g5 (b := w2.heap.size) (o := 1) (v := .int .i32 ya) (alloc_one r1)
       replace r2 := kept_cell g5 (b := w2.heap.size) (o := 2) (v := .int .i32 za) (alloc_one r2)
       replace r3 := kept_cell g5 (b := w2.heap.size) (o := 3) (v := .int .i32 ta) (alloc_one r3)
       replace s0 := kept_cell g5 (b := w3.heap.size) (o := 0) (v := .int .i32 xb) (alloc_one s0)
       replace s1 := kept_cell g5 (b := w3.heap.size) (o := 1) (v := .int .i32 yb) (alloc_one s1)
       replace s2 := kept_cell g5 (b := w3.heap.size) (o := 2) (v := .int .i32 zb) (alloc_one s2)
       replace s3 := kept_cell g5 (b := w3.heap.size) (o := 3) (v := .int .i32 tb) (alloc_one s3)
       have k0 := kept_cell g5 (b := w4.heap.size) (o := 0) (v := .int .i32 1) (by (repeat (first | rw [World.cell?_drew] | rw [World.cell?_alloc_past _ _ _ (by first | (simp; done) | (simp; omega))])); rw [World.cell?_alloc_at _ _ _ _ (by simp)]; rfl)
       have k1 := kept_cell g5 (b := w4.heap.size) (o := 1) (v := .int .i32 0) (by (repeat (first | rw [World.cell?_drew] | rw [World.cell?_alloc_past _ _ _ (by first | (simp; done) | (simp; omega))])); rw [World.cell?_alloc_at _ _ _ _ (by simp)]; rfl)
       have k2 := kept_cell g5 (b := w4.heap.size) (o := 2) (v := .int .i32 0) (by (repeat (first | rw [World.cell?_drew] | rw [World.cell?_alloc_past _ _ _ (by first | (simp; done) | (simp; omega))])); rw [World.cell?_alloc_at _ _ _ _ (by simp)]; rfl)
       have k3 := kept_cell g5 (b := w4.heap.size) (o := 3) (v := .int .i32 0) (by (repeat (first | rw [World.cell?_drew] | rw [World.cell?_alloc_past _ _ _ (by first | (simp; done) | (simp; omega))])); rw [World.cell?_alloc_at _ _ _ _ (by simp)]; rfl)
       replace gg := grown_trans (gg.alloc _ _) g5
       have zp_w5 : w.heap.size < w5.heap.size := World.block_lt_of_cell? _ _ p0
       have zq_w5 : w.heap.size + 1 < w5.heap.size := World.block_lt_of_cell? _ _ q0
       have zn_w5 : w.heap.size + 1 + 1 < w5.heap.size := World.block_lt_of_cell? _ _ n0
       have zr_w5 : w2.heap.size < w5.heap.size := World.block_lt_of_cell? _ _ r0
       have zs_w5 : w3.heap.size < w5.heap.size := World.block_lt_of_cell? _ _ s0
       have zk_w5 : w4.heap.size < w5.heap.size := World.block_lt_of_cell? _ _ k0)
    | ((with_reducible refine (K1.out _).mono ?_); rintro e w6 ⟨rfl, g6⟩
       replace p0 := kept_cell g6 (b := w.heap.size) (o := 0) (v := .int .i32 xa) (alloc_one p0)
       replace p1 := kept_cell g6 (b := w.heap.size) (o := 1) (v := .int .i32 ya) (alloc_one p1)
       replace p2 := kept_cell g6 (b := w.heap.size) (o := 2) (v := .int .i32 za) (alloc_one p2)
       replace p3 := kept_cell g6 (b := w.heap.size) (o := 3) (v := .int .i32 ta) (alloc_one p3)
       replace q0 := kept_cell g6 (b := w.heap.size + 1) (o := 0) (v := .int .i32 xb) (alloc_one q0)
       replace q1 := kept_cell g6 (b := w.heap.size + 1) (o := 1) (v := .int .i32 yb) (alloc_one q1)
       replace q2 := kept_cell g6 (b := w.heap.size + 1) (o := 2) (v := .int .i32 zb) (alloc_one q2)
       replace q3 := kept_cell g6 (b := w.heap.size + 1) (o := 3) (v := .int .i32 tb) (alloc_one q3)
       replace n0 := kept_cell g6 (b := w.heap.size + 1 + 1) (o := 0) (v := .int .i32 x) (alloc_one n0)
       replace n1 := kept_cell g6 (b := w.heap.size + 1 + 1) (o := 1) (v := .int .i32 y) (alloc_one n1)
       replace r0 := kept_cell g6 (b := w2.heap.size) (o := 0) (v := .int .i32 xa) (alloc_one r0)
       replace r1 := kept_cell g6 (b := w2.heap.size) (o := 1) (v := .int .i32 ya) (alloc_one r1)
       replace r2 := kept_cell g6 (b := w2.heap.size) (o := 2) (v := .int .i32 za) (alloc_one r2)
       replace r3 := kept_cell g6 (b := w2.heap.size) (o := 3) (v := .int .i32 ta) (alloc_one r3)
       replace s0 := kept_cell g6 (b := w3.heap.size) (o := 0) (v := .int .i32 xb) (alloc_one s0)
       replace s1 := kept_cell g6 (b := w3.heap.size) (o := 1) (v := .int .i32 yb) (alloc_one s1)
       replace s2 := kept_cell g6 (b := w3.heap.size) (o := 2) (v := .int .i32 zb) (alloc_one s2)
       replace s3 := kept_cell g6 (b := w3.heap.size) (o := 3) (v := .int .i32 tb) (alloc_one s3)
       replace k0 := kept_cell g6 (b := w4.heap.size) (o := 0) (v := .int .i32 1) (alloc_one k0)
       replace k1 := kept_cell g6 (b := w4.heap.size) (o := 1) (v := .int .i32 0) (alloc_one k1)
       replace k2 := kept_cell g6 (b := w4.heap.size) (o := 2) (v := .int .i32 0) (alloc_one k2)
       replace k3 := kept_cell g6 (b := w4.heap.size) (o := 3) (v := .int .i32 0) (alloc_one k3)
       have l0 := kept_cell g6 (b := w5.heap.size) (o := 0) (v := .int .i32 u0) (by (repeat (first | rw [World.cell?_drew] | rw [World.cell?_alloc_past _ _ _ (by first | (simp; done) | (simp; omega))])); rw [World.cell?_alloc_at _ _ _ _ (by simp)]; rfl)
       have l1 := kept_cell g6 (b := w5.heap.size) (o := 1) (v := .int .i32 u1) (by (repeat (first | rw [World.cell?_drew] | rw [World.cell?_alloc_past _ _ _ (by first | (simp; done) | (simp; omega))])); rw [World.cell?_alloc_at _ _ _ _ (by simp)]; rfl)
       have l2 := kept_cell g6 (b := w5.heap.size) (o := 2) (v := .int .i32 u2) (by (repeat (first | rw [World.cell?_drew] | rw [World.cell?_alloc_past _ _ _ (by first | (simp; done) | (simp; omega))])); rw [World.cell?_alloc_at _ _ _ _ (by simp)]; rfl)
       have l3 := kept_cell g6 (b := w5.heap.size) (o := 3) (v := .int .i32 u3) (by (repeat (first | rw [World.cell?_drew] | rw [World.cell?_alloc_past _ _ _ (by first | (simp; done) | (simp; omega))])); rw [World.cell?_alloc_at _ _ _ _ (by simp)]; rfl)
       replace gg := grown_trans (gg.alloc _ _) g6
       have zp_w6 : w.heap.size < w6.heap.size := World.block_lt_of_cell? _ _ p0
       have zq_w6 : w.heap.size + 1 < w6.heap.size := World.block_lt_of_cell? _ _ q0
       have zn_w6 : w.heap.size + 1 + 1 < w6.heap.size := World.block_lt_of_cell? _ _ n0
       have zr_w6 : w2.heap.size < w6.heap.size := World.block_lt_of_cell? _ _ r0
       have zs_w6 : w3.heap.size < w6.heap.size := World.block_lt_of_cell? _ _ s0
       have zk_w6 : w4.heap.size < w6.heap.size := World.block_lt_of_cell? _ _ k0
       have zl_w6 : w5.heap.size < w6.heap.size := World.block_lt_of_cell? _ _ l0)
    | ((with_reducible refine (K2.out _).mono ?_); rintro e w7 ⟨rfl, g7⟩
       replace p0 := kept_cell g7 (b := w.heap.size) (o := 0) (v := .int .i32 xa) p0
       replace p1 := kept_cell g7 (b := w.heap.size) (o := 1) (v := .int .i32 ya) p1
       replace p2 := kept_cell g7 (b := w.heap.size) (o := 2) (v := .int .i32 za) p2
       replace p3 := kept_cell g7 (b := w.heap.size) (o := 3) (v := .int .i32 ta) p3
       replace q0 := kept_cell g7 (b := w.heap.size + 1) (o := 0) (v := .int .i32 xb) q0
       replace q1 := kept_cell g7 (b := w.heap.size + 1) (o := 1) (v := .int .i32 yb) q1
       replace q2 := kept_cell g7 (b := w.heap.size + 1) (o := 2) (v := .int .i32 zb) q2
       replace q3 := kept_cell g7 (b := w.heap.size + 1) (o := 3) (v := .int .i32 tb) q3
       replace n0 := kept_cell g7 (b := w.heap.size + 1 + 1) (o := 0) (v := .int .i32 x) n0
       replace n1 := kept_cell g7 (b := w.heap.size + 1 + 1) (o := 1) (v := .int .i32 y) n1
       replace r0 := kept_cell g7 (b := w2.heap.size) (o := 0) (v := .int .i32 xa) r0
       replace r1 := kept_cell g7 (b := w2.heap.size) (o := 1) (v := .int .i32 ya) r1
       replace r2 := kept_cell g7 (b := w2.heap.size) (o := 2) (v := .int .i32 za) r2
       replace r3 := kept_cell g7 (b := w2.heap.size) (o := 3) (v := .int .i32 ta) r3
       replace s0 := kept_cell g7 (b := w3.heap.size) (o := 0) (v := .int .i32 xb) s0
       replace s1 := kept_cell g7 (b := w3.heap.size) (o := 1) (v := .int .i32 yb) s1
       replace s2 := kept_cell g7 (b := w3.heap.size) (o := 2) (v := .int .i32 zb) s2
       replace s3 := kept_cell g7 (b := w3.heap.size) (o := 3) (v := .int .i32 tb) s3
       replace k0 := kept_cell g7 (b := w4.heap.size) (o := 0) (v := .int .i32 1) k0
       replace k1 := kept_cell g7 (b := w4.heap.size) (o := 1) (v := .int .i32 0) k1
       replace k2 := kept_cell g7 (b := w4.heap.size) (o := 2) (v := .int .i32 0) k2
       replace k3 := kept_cell g7 (b := w4.heap.size) (o := 3) (v := .int .i32 0) k3
       replace l0 := kept_cell g7 (b := w5.heap.size) (o := 0) (v := .int .i32 u0) l0
       replace l1 := kept_cell g7 (b := w5.heap.size) (o := 1) (v := .int .i32 u1) l1
       replace l2 := kept_cell g7 (b := w5.heap.size) (o := 2) (v := .int .i32 u2) l2
       replace l3 := kept_cell g7 (b := w5.heap.size) (o := 3) (v := .int .i32 u3) l3
       replace gg := grown_trans gg g7
       have zp_w7 : w.heap.size < w7.heap.size := World.block_lt_of_cell? _ _ p0
       have zq_w7 : w.heap.size + 1 < w7.heap.size := World.block_lt_of_cell? _ _ q0
       have zn_w7 : w.heap.size + 1 + 1 < w7.heap.size := World.block_lt_of_cell? _ _ n0
       have zr_w7 : w2.heap.size < w7.heap.size := World.block_lt_of_cell? _ _ r0
       have zs_w7 : w3.heap.size < w7.heap.size := World.block_lt_of_cell? _ _ s0
       have zk_w7 : w4.heap.size < w7.heap.size := World.block_lt_of_cell? _ _ k0
       have zl_w7 : w5.heap.size < w7.heap.size := World.block_lt_of_cell? _ _ l0))
  refine wp_region_noPanic ?_
  refine wp_region_held_drew (S := (fun w' => w'.cell? ⟨w.heap.size, 0, none⟩ = some (.int .i32 xa) ∧ w'.cell? ⟨w.heap.size, 1, none⟩ = some (.int .i32 ya) ∧ w'.cell? ⟨w.heap.size, 2, none⟩ = some (.int .i32 za) ∧ w'.cell? ⟨w.heap.size, 3, none⟩ = some (.int .i32 ta) ∧ w'.cell? ⟨w.heap.size + 1, 0, none⟩ = some (.int .i32 xb) ∧ w'.cell? ⟨w.heap.size + 1, 1, none⟩ = some (.int .i32 yb) ∧ w'.cell? ⟨w.heap.size + 1, 2, none⟩ = some (.int .i32 zb) ∧ w'.cell? ⟨w.heap.size + 1, 3, none⟩ = some (.int .i32 tb) ∧ w'.cell? ⟨w.heap.size + 1 + 1, 0, none⟩ = some (.int .i32 x) ∧ w'.cell? ⟨w.heap.size + 1 + 1, 1, none⟩ = some (.int .i32 y) ∧ w'.cell? ⟨w2.heap.size, 0, none⟩ = some (.int .i32 xa) ∧ w'.cell? ⟨w2.heap.size, 1, none⟩ = some (.int .i32 ya) ∧ w'.cell? ⟨w2.heap.size, 2, none⟩ = some (.int .i32 za) ∧ w'.cell? ⟨w2.heap.size, 3, none⟩ = some (.int .i32 ta) ∧ w'.cell? ⟨w3.heap.size, 0, none⟩ = some (.int .i32 xb) ∧ w'.cell? ⟨w3.heap.size, 1, none⟩ = some (.int .i32 yb) ∧ w'.cell? ⟨w3.heap.size, 2, none⟩ = some (.int .i32 zb) ∧ w'.cell? ⟨w3.heap.size, 3, none⟩ = some (.int .i32 tb) ∧ w'.cell? ⟨w4.heap.size, 0, none⟩ = some (.int .i32 1) ∧ w'.cell? ⟨w4.heap.size, 1, none⟩ = some (.int .i32 0) ∧ w'.cell? ⟨w4.heap.size, 2, none⟩ = some (.int .i32 0) ∧ w'.cell? ⟨w4.heap.size, 3, none⟩ = some (.int .i32 0) ∧ w'.cell? ⟨w5.heap.size, 0, none⟩ = some (.int .i32 u0) ∧ w'.cell? ⟨w5.heap.size, 1, none⟩ = some (.int .i32 u1) ∧ w'.cell? ⟨w5.heap.size, 2, none⟩ = some (.int .i32 u2) ∧ w'.cell? ⟨w5.heap.size, 3, none⟩ = some (.int .i32 u3) ∧ Grown w w')) (by kernel_rfl) (⟨by rw [World.cell?_drew]; exact p0, by rw [World.cell?_drew]; exact p1, by rw [World.cell?_drew]; exact p2, by rw [World.cell?_drew]; exact p3, by rw [World.cell?_drew]; exact q0, by rw [World.cell?_drew]; exact q1, by rw [World.cell?_drew]; exact q2, by rw [World.cell?_drew]; exact q3, by rw [World.cell?_drew]; exact n0, by rw [World.cell?_drew]; exact n1, by rw [World.cell?_drew]; exact r0, by rw [World.cell?_drew]; exact r1, by rw [World.cell?_drew]; exact r2, by rw [World.cell?_drew]; exact r3, by rw [World.cell?_drew]; exact s0, by rw [World.cell?_drew]; exact s1, by rw [World.cell?_drew]; exact s2, by rw [World.cell?_drew]; exact s3, by rw [World.cell?_drew]; exact k0, by rw [World.cell?_drew]; exact k1, by rw [World.cell?_drew]; exact k2, by rw [World.cell?_drew]; exact k3, by rw [World.cell?_drew]; exact l0, by rw [World.cell?_drew]; exact l1, by rw [World.cell?_drew]; exact l2, by rw [World.cell?_drew]; exact l3, (gg).drew⟩) (fun hH => ?_)
  refine wpAnyH_take (i := 0) (oi := { dst := some 32, op := Op.load 31 (Operand.tmp 9), type := _, pos := _, after := _, guard := none }) (v := ?_) rfl (by kernel_rfl) (by kernel_rfl) (by kernel_rfl) (fun _ _ _ h => h) (Or.inl ⟨by rfl, ?_⟩) hH ?_
  rotate_left
  · (intro w hSw; (try dsimp only at hSw); go_simp; (try with_reducible rfl))
  try simp only [Act.put, List.setIfInBounds_toArray, List.set_cons_zero, List.set_cons_succ]
  refine wpAnyH_take (i := 1) (oi := { dst := some 33, op := Op.load 24 (Operand.tmp 5), type := _, pos := _, after := _, guard := none }) (v := ?_) rfl (by kernel_rfl) (by kernel_rfl) (by kernel_rfl) (fun _ _ _ h => h) (Or.inl ⟨by rfl, ?_⟩) hH ?_
  rotate_left
  · (intro w hSw; (try dsimp only at hSw); go_simp; (try with_reducible rfl))
  try simp only [Act.put, List.setIfInBounds_toArray, List.set_cons_zero, List.set_cons_succ]
  refine wpAnyH_take (i := 3) (oi := { dst := some 35, op := Op.move (Operand.tmp 11), type := _, pos := _, after := _, guard := none }) (v := ?_) rfl (by kernel_rfl) (by kernel_rfl) (by kernel_rfl) (fun _ _ _ h => h) (Or.inl ⟨by rfl, ?_⟩) hH ?_
  rotate_left
  · (intro w hSw; (try dsimp only at hSw); go_simp; (try with_reducible rfl))
  try simp only [Act.put, List.setIfInBounds_toArray, List.set_cons_zero, List.set_cons_succ]
  refine wpAnyH_ready (rs := [2]) (by kernel_rfl) (by simp) ?_
  refine AllReadyH.cons (o := { dst := some 34, op := Op.call { callee := Callee.value (Operand.func 17), args := #[Operand.tmp 32, Operand.tmp 33], argTypes := #[31, 24] }, type := _, pos := _, after := _, guard := none }) rfl (fun K hK => ?_) AllReadyH.nil
  go_simp
  (with_reducible refine (C3.out _).mono ?_); rintro e v8_2 ⟨rfl, g⟩
  refine hK.out _ _ (by (try dsimp only); (go_split_ands; exact ⟨kept_cell g (by assumption), kept_cell g (by assumption), kept_cell g (by assumption), kept_cell g (by assumption), kept_cell g (by assumption), kept_cell g (by assumption), kept_cell g (by assumption), kept_cell g (by assumption), kept_cell g (by assumption), kept_cell g (by assumption), kept_cell g (by assumption), kept_cell g (by assumption), kept_cell g (by assumption), kept_cell g (by assumption), kept_cell g (by assumption), kept_cell g (by assumption), kept_cell g (by assumption), kept_cell g (by assumption), kept_cell g (by assumption), kept_cell g (by assumption), kept_cell g (by assumption), kept_cell g (by assumption), kept_cell g (by assumption), kept_cell g (by assumption), kept_cell g (by assumption), kept_cell g (by assumption), grown_trans (by assumption) g⟩)) (fun hH2 => ?_)
  clear hK K hH; have hH := hH2; clear hH2
  try simp only [Act.put, List.setIfInBounds_toArray, List.set_cons_zero, List.set_cons_succ]
  refine wpAnyH_take (i := 4) (oi := { dst := some 36, op := Op.binOp BinOp.neq 4 (Operand.tmp 34) (Operand.tmp 35) 4, type := _, pos := _, after := _, guard := none }) (v := ?_) rfl (by kernel_rfl) (by kernel_rfl) (by kernel_rfl) (fun _ _ _ h => h) (Or.inl ⟨by rfl, ?_⟩) hH ?_
  rotate_left
  · (intro w hSw; (try dsimp only at hSw); go_simp; (try with_reducible rfl))
  try simp only [Act.put, List.setIfInBounds_toArray, List.set_cons_zero, List.set_cons_succ]
  refine wpAnyH_take (i := 5) (oi := { dst := some 37, op := Op.move (Operand.tmp 36), type := _, pos := _, after := _, guard := none }) (v := ?_) rfl (by kernel_rfl) (by kernel_rfl) (by kernel_rfl) (fun _ _ _ h => h) (Or.inl ⟨by rfl, ?_⟩) hH ?_
  rotate_left
  · (intro w hSw; (try dsimp only at hSw); go_simp; (try with_reducible rfl))
  try simp only [Act.put, List.setIfInBounds_toArray, List.set_cons_zero, List.set_cons_succ]
  refine wpAnyH_take (i := 6) (oi := { dst := some 38, op := Op.load 31 (Operand.tmp 7), type := _, pos := _, after := _, guard := some (5, false) }) (v := ?_) rfl (by kernel_rfl) (by kernel_rfl) (by kernel_rfl) (fun _ _ _ h => h) (Or.inl ⟨by rfl, ?_⟩) hH ?_
  rotate_left
  · (intro w hSw; (try dsimp only at hSw); go_simp; (try with_reducible rfl))
  try simp only [Act.put, List.setIfInBounds_toArray, List.set_cons_zero, List.set_cons_succ]
  refine wpAnyH_take (i := 7) (oi := { dst := some 39, op := Op.load 24 (Operand.tmp 5), type := _, pos := _, after := _, guard := some (5, false) }) (v := ?_) rfl (by kernel_rfl) (by kernel_rfl) (by kernel_rfl) (fun _ _ _ h => h) (Or.inl ⟨by rfl, ?_⟩) hH ?_
  rotate_left
  · (intro w hSw; (try dsimp only at hSw); go_simp; (try with_reducible rfl))
  try simp only [Act.put, List.setIfInBounds_toArray, List.set_cons_zero, List.set_cons_succ]
  refine wpAnyH_ready (rs := [8]) (by kernel_rfl) (by simp) ?_
  refine AllReadyH.cons (o := { dst := some 40, op := Op.call { callee := Callee.value (Operand.func 17), args := #[Operand.tmp 38, Operand.tmp 39], argTypes := #[31, 24] }, type := _, pos := _, after := _, guard := some (5, false) }) rfl (fun K hK => ?_) AllReadyH.nil
  go_simp
  (with_reducible refine (K1.out _).mono ?_); rintro e v8_8 ⟨rfl, g⟩
  refine hK.out _ _ (by (try dsimp only); (go_split_ands; exact ⟨kept_cell g (by assumption), kept_cell g (by assumption), kept_cell g (by assumption), kept_cell g (by assumption), kept_cell g (by assumption), kept_cell g (by assumption), kept_cell g (by assumption), kept_cell g (by assumption), kept_cell g (by assumption), kept_cell g (by assumption), kept_cell g (by assumption), kept_cell g (by assumption), kept_cell g (by assumption), kept_cell g (by assumption), kept_cell g (by assumption), kept_cell g (by assumption), kept_cell g (by assumption), kept_cell g (by assumption), kept_cell g (by assumption), kept_cell g (by assumption), kept_cell g (by assumption), kept_cell g (by assumption), kept_cell g (by assumption), kept_cell g (by assumption), kept_cell g (by assumption), kept_cell g (by assumption), grown_trans (by assumption) g⟩)) (fun hH2 => ?_)
  clear hK K hH; have hH := hH2; clear hH2
  try simp only [Act.put, List.setIfInBounds_toArray, List.set_cons_zero, List.set_cons_succ]
  refine wpAnyH_take (i := 9) (oi := { dst := some 41, op := Op.move (Operand.tmp 40), type := _, pos := _, after := _, guard := some (5, false) }) (v := ?_) rfl (by kernel_rfl) (by kernel_rfl) (by kernel_rfl) (fun _ _ _ h => h) (Or.inl ⟨by rfl, ?_⟩) hH ?_
  rotate_left
  · (intro w hSw; (try dsimp only at hSw); go_simp; (try with_reducible rfl))
  try simp only [Act.put, List.setIfInBounds_toArray, List.set_cons_zero, List.set_cons_succ]
  refine wpAnyH_take (i := 10) (oi := { dst := some 42, op := Op.load 31 (Operand.tmp 8), type := _, pos := _, after := _, guard := some (9, false) }) (v := undef) rfl (by kernel_rfl) (by kernel_rfl) (by kernel_rfl) (fun _ _ _ h => h) (Or.inr ⟨by rfl, rfl⟩) hH ?_
  try simp only [Act.put, List.setIfInBounds_toArray, List.set_cons_zero, List.set_cons_succ]
  refine wpAnyH_take (i := 11) (oi := { dst := some 43, op := Op.load 24 (Operand.tmp 5), type := _, pos := _, after := _, guard := some (9, false) }) (v := undef) rfl (by kernel_rfl) (by kernel_rfl) (by kernel_rfl) (fun _ _ _ h => h) (Or.inr ⟨by rfl, rfl⟩) hH ?_
  try simp only [Act.put, List.setIfInBounds_toArray, List.set_cons_zero, List.set_cons_succ]
  refine wpAnyH_take (i := 12) (oi := { dst := some 44, op := Op.call { callee := Callee.value (Operand.func 17), args := #[Operand.tmp 42, Operand.tmp 43], argTypes := #[31, 24] }, type := _, pos := _, after := _, guard := some (9, false) }) (v := undef) rfl (by kernel_rfl) (by kernel_rfl) (by kernel_rfl) (fun _ _ _ h => h) (Or.inr ⟨by rfl, rfl⟩) hH ?_
  try simp only [Act.put, List.setIfInBounds_toArray, List.set_cons_zero, List.set_cons_succ]
  refine wpAnyH_take (i := 13) (oi := { dst := some 45, op := Op.pick (Operand.tmp 41) (Operand.const (Value.bool true)) (Operand.tmp 44), type := _, pos := _, after := _, guard := some (5, false) }) (v := ?_) rfl (by kernel_rfl) (by kernel_rfl) (by kernel_rfl) (fun _ _ _ h => h) (Or.inl ⟨by rfl, ?_⟩) hH ?_
  rotate_left
  · (intro w hSw; (try dsimp only at hSw); go_simp; (try with_reducible rfl))
  try simp only [Act.put, List.setIfInBounds_toArray, List.set_cons_zero, List.set_cons_succ]
  refine wpAnyH_take (i := 14) (oi := { dst := some 46, op := Op.move (Operand.tmp 45), type := _, pos := _, after := _, guard := some (5, false) }) (v := ?_) rfl (by kernel_rfl) (by kernel_rfl) (by kernel_rfl) (fun _ _ _ h => h) (Or.inl ⟨by rfl, ?_⟩) hH ?_
  rotate_left
  · (intro w hSw; (try dsimp only at hSw); go_simp; (try with_reducible rfl))
  try simp only [Act.put, List.setIfInBounds_toArray, List.set_cons_zero, List.set_cons_succ]
  refine wpAnyH_take (i := 15) (oi := { dst := some 47, op := Op.load 31 (Operand.tmp 10), type := _, pos := _, after := _, guard := some (14, true) }) (v := ?_) rfl (by kernel_rfl) (by kernel_rfl) (by kernel_rfl) (fun _ _ _ h => h) (Or.inl ⟨by rfl, ?_⟩) hH ?_
  rotate_left
  · (intro w hSw; (try dsimp only at hSw); go_simp; (try with_reducible rfl))
  try simp only [Act.put, List.setIfInBounds_toArray, List.set_cons_zero, List.set_cons_succ]
  refine wpAnyH_take (i := 16) (oi := { dst := some 48, op := Op.load 24 (Operand.tmp 5), type := _, pos := _, after := _, guard := some (14, true) }) (v := ?_) rfl (by kernel_rfl) (by kernel_rfl) (by kernel_rfl) (fun _ _ _ h => h) (Or.inl ⟨by rfl, ?_⟩) hH ?_
  rotate_left
  · (intro w hSw; (try dsimp only at hSw); go_simp; (try with_reducible rfl))
  try simp only [Act.put, List.setIfInBounds_toArray, List.set_cons_zero, List.set_cons_succ]
  refine wpAnyH_ready (rs := [17]) (by kernel_rfl) (by simp) ?_
  refine AllReadyH.cons (o := { dst := some 49, op := Op.call { callee := Callee.value (Operand.func 17), args := #[Operand.tmp 47, Operand.tmp 48], argTypes := #[31, 24] }, type := _, pos := _, after := _, guard := some (14, true) }) rfl (fun K hK => ?_) AllReadyH.nil
  go_simp
  (with_reducible refine (C4.out _).mono ?_); rintro e v8_17 ⟨rfl, g⟩
  refine hK.out _ _ (by (try dsimp only); (go_split_ands; exact ⟨kept_cell g (by assumption), kept_cell g (by assumption), kept_cell g (by assumption), kept_cell g (by assumption), kept_cell g (by assumption), kept_cell g (by assumption), kept_cell g (by assumption), kept_cell g (by assumption), kept_cell g (by assumption), kept_cell g (by assumption), kept_cell g (by assumption), kept_cell g (by assumption), kept_cell g (by assumption), kept_cell g (by assumption), kept_cell g (by assumption), kept_cell g (by assumption), kept_cell g (by assumption), kept_cell g (by assumption), kept_cell g (by assumption), kept_cell g (by assumption), kept_cell g (by assumption), kept_cell g (by assumption), kept_cell g (by assumption), kept_cell g (by assumption), kept_cell g (by assumption), kept_cell g (by assumption), grown_trans (by assumption) g⟩)) (fun hH2 => ?_)
  clear hK K hH; have hH := hH2; clear hH2
  try simp only [Act.put, List.setIfInBounds_toArray, List.set_cons_zero, List.set_cons_succ]
  refine wpAnyH_take (i := 18) (oi := { dst := some 50, op := Op.unOp UnOp.not 4 (Operand.tmp 49), type := _, pos := _, after := _, guard := some (14, true) }) (v := ?_) rfl (by kernel_rfl) (by kernel_rfl) (by kernel_rfl) (fun _ _ _ h => h) (Or.inl ⟨by rfl, ?_⟩) hH ?_
  rotate_left
  · (intro w hSw; (try dsimp only at hSw); go_simp; (try with_reducible rfl))
  try simp only [Act.put, List.setIfInBounds_toArray, List.set_cons_zero, List.set_cons_succ]
  refine wpAnyH_take (i := 19) (oi := { dst := some 51, op := Op.pick (Operand.tmp 46) (Operand.tmp 50) (Operand.const (Value.bool false)), type := _, pos := _, after := _, guard := some (5, false) }) (v := ?_) rfl (by kernel_rfl) (by kernel_rfl) (by kernel_rfl) (fun _ _ _ h => h) (Or.inl ⟨by rfl, ?_⟩) hH ?_
  rotate_left
  · (intro w hSw; (try dsimp only at hSw); go_simp; (try with_reducible rfl))
  try simp only [Act.put, List.setIfInBounds_toArray, List.set_cons_zero, List.set_cons_succ]
  refine wpAnyH_take (i := 20) (oi := { dst := some 52, op := Op.pick (Operand.tmp 37) (Operand.const (Value.bool true)) (Operand.tmp 51), type := _, pos := _, after := _, guard := none }) (v := ?_) rfl (by kernel_rfl) (by kernel_rfl) (by kernel_rfl) (fun _ _ _ h => h) (Or.inl ⟨by rfl, ?_⟩) hH ?_
  rotate_left
  · (intro w hSw; (try dsimp only at hSw); go_simp; (try with_reducible rfl))
  try simp only [Act.put, List.setIfInBounds_toArray, List.set_cons_zero, List.set_cons_succ]
  refine wpAnyH_take (i := 21) (oi := { dst := some 53, op := Op.move (Operand.tmp 52), type := _, pos := _, after := _, guard := none }) (v := ?_) rfl (by kernel_rfl) (by kernel_rfl) (by kernel_rfl) (fun _ _ _ h => h) (Or.inl ⟨by rfl, ?_⟩) hH ?_
  rotate_left
  · (intro w hSw; (try dsimp only at hSw); go_simp; (try with_reducible rfl))
  try simp only [Act.put, List.setIfInBounds_toArray, List.set_cons_zero, List.set_cons_succ]
  refine wpAnyH_take (i := 22) (oi := { dst := some 54, op := Op.load 31 (Operand.tmp 7), type := _, pos := _, after := _, guard := some (21, false) }) (v := ?_) rfl (by kernel_rfl) (by kernel_rfl) (by kernel_rfl) (fun _ _ _ h => h) (Or.inl ⟨by rfl, ?_⟩) hH ?_
  rotate_left
  · (intro w hSw; (try dsimp only at hSw); go_simp; (try with_reducible rfl))
  try simp only [Act.put, List.setIfInBounds_toArray, List.set_cons_zero, List.set_cons_succ]
  refine wpAnyH_take (i := 23) (oi := { dst := some 55, op := Op.load 31 (Operand.tmp 8), type := _, pos := _, after := _, guard := some (21, false) }) (v := ?_) rfl (by kernel_rfl) (by kernel_rfl) (by kernel_rfl) (fun _ _ _ h => h) (Or.inl ⟨by rfl, ?_⟩) hH ?_
  rotate_left
  · (intro w hSw; (try dsimp only at hSw); go_simp; (try with_reducible rfl))
  try simp only [Act.put, List.setIfInBounds_toArray, List.set_cons_zero, List.set_cons_succ]
  refine wpAnyH_take (i := 25) (oi := { dst := some 57, op := Op.load 31 (Operand.tmp 9), type := _, pos := _, after := _, guard := some (21, false) }) (v := ?_) rfl (by kernel_rfl) (by kernel_rfl) (by kernel_rfl) (fun _ _ _ h => h) (Or.inl ⟨by rfl, ?_⟩) hH ?_
  rotate_left
  · (intro w hSw; (try dsimp only at hSw); go_simp; (try with_reducible rfl))
  try simp only [Act.put, List.setIfInBounds_toArray, List.set_cons_zero, List.set_cons_succ]
  refine wpAnyH_ready (rs := [24]) (by kernel_rfl) (by simp) ?_
  refine AllReadyH.cons (o := { dst := some 56, op := Op.call { callee := Callee.value (Operand.func 15), args := #[Operand.tmp 54, Operand.tmp 55], argTypes := #[31, 31] }, type := _, pos := _, after := _, guard := some (21, false) }) rfl (fun K hK => ?_) AllReadyH.nil
  go_simp
  (with_reducible refine (O1.out _).mono ?_); rintro e v8_24 ⟨rfl, g⟩
  refine hK.out _ _ (by (try dsimp only); (go_split_ands; exact ⟨kept_cell g (by assumption), kept_cell g (by assumption), kept_cell g (by assumption), kept_cell g (by assumption), kept_cell g (by assumption), kept_cell g (by assumption), kept_cell g (by assumption), kept_cell g (by assumption), kept_cell g (by assumption), kept_cell g (by assumption), kept_cell g (by assumption), kept_cell g (by assumption), kept_cell g (by assumption), kept_cell g (by assumption), kept_cell g (by assumption), kept_cell g (by assumption), kept_cell g (by assumption), kept_cell g (by assumption), kept_cell g (by assumption), kept_cell g (by assumption), kept_cell g (by assumption), kept_cell g (by assumption), kept_cell g (by assumption), kept_cell g (by assumption), kept_cell g (by assumption), kept_cell g (by assumption), grown_trans (by assumption) g⟩)) (fun hH2 => ?_)
  clear hK K hH; have hH := hH2; clear hH2
  try simp only [Act.put, List.setIfInBounds_toArray, List.set_cons_zero, List.set_cons_succ]
  refine wpAnyH_ready (rs := [26]) (by kernel_rfl) (by simp) ?_
  refine AllReadyH.cons (o := { dst := some 58, op := Op.call { callee := Callee.value (Operand.func 13), args := #[Operand.tmp 57], argTypes := #[31] }, type := _, pos := _, after := _, guard := some (21, false) }) rfl (fun K hK => ?_) AllReadyH.nil
  go_simp
  (with_reducible refine (E1.out _).mono ?_); rintro e v8_26 ⟨rfl, g⟩
  refine hK.out _ _ (by (try dsimp only); (go_split_ands; exact ⟨kept_cell g (by assumption), kept_cell g (by assumption), kept_cell g (by assumption), kept_cell g (by assumption), kept_cell g (by assumption), kept_cell g (by assumption), kept_cell g (by assumption), kept_cell g (by assumption), kept_cell g (by assumption), kept_cell g (by assumption), kept_cell g (by assumption), kept_cell g (by assumption), kept_cell g (by assumption), kept_cell g (by assumption), kept_cell g (by assumption), kept_cell g (by assumption), kept_cell g (by assumption), kept_cell g (by assumption), kept_cell g (by assumption), kept_cell g (by assumption), kept_cell g (by assumption), kept_cell g (by assumption), kept_cell g (by assumption), kept_cell g (by assumption), kept_cell g (by assumption), kept_cell g (by assumption), grown_trans (by assumption) g⟩)) (fun hH2 => ?_)
  clear hK K hH; have hH := hH2; clear hH2
  try simp only [Act.put, List.setIfInBounds_toArray, List.set_cons_zero, List.set_cons_succ]
  refine wpAnyH_take (i := 27) (oi := { dst := some 59, op := Op.binOp BinOp.eql 4 (Operand.tmp 56) (Operand.tmp 58) 4, type := _, pos := _, after := _, guard := some (21, false) }) (v := ?_) rfl (by kernel_rfl) (by kernel_rfl) (by kernel_rfl) (fun _ _ _ h => h) (Or.inl ⟨by rfl, ?_⟩) hH ?_
  rotate_left
  · (intro w hSw; (try dsimp only at hSw); go_simp; (try with_reducible rfl))
  try simp only [Act.put, List.setIfInBounds_toArray, List.set_cons_zero, List.set_cons_succ]
  refine wpAnyH_take (i := 28) (oi := { dst := some 60, op := Op.pick (Operand.tmp 53) (Operand.const (Value.bool true)) (Operand.tmp 59), type := _, pos := _, after := _, guard := none }) (v := ?_) rfl (by kernel_rfl) (by kernel_rfl) (by kernel_rfl) (fun _ _ _ h => h) (Or.inl ⟨by rfl, ?_⟩) hH ?_
  rotate_left
  · (intro w hSw; (try dsimp only at hSw); go_simp; (try with_reducible rfl))
  try simp only [Act.put, List.setIfInBounds_toArray, List.set_cons_zero, List.set_cons_succ]
  refine wpAnyH_done (by kernel_rfl) ?_ _
  refine NoPanic.normal ?_
  clear p0 p1 p2 p3 q0 q1 q2 q3 n0 n1 r0 r1 r2 r3 s0 s1 s2 s3 k0 k1 k2 k3 l0 l1 l2 l3 gg
  obtain ⟨p0, p1, p2, p3, q0, q1, q2, q3, n0, n1, r0, r1, r2, r3, s0, s1, s2, s3, k0, k1, k2, k3, l0, l1, l2, l3, gg⟩ := hH
  go_wp2_with (first
    | ((with_reducible refine (E1.out _).mono ?_); rintro e w8 ⟨rfl, g8⟩
       replace p0 := kept_cell g8 (b := w.heap.size) (o := 0) (v := .int .i32 xa) p0
       replace p1 := kept_cell g8 (b := w.heap.size) (o := 1) (v := .int .i32 ya) p1
       replace p2 := kept_cell g8 (b := w.heap.size) (o := 2) (v := .int .i32 za) p2
       replace p3 := kept_cell g8 (b := w.heap.size) (o := 3) (v := .int .i32 ta) p3
       replace q0 := kept_cell g8 (b := w.heap.size + 1) (o := 0) (v := .int .i32 xb) q0
       replace q1 := kept_cell g8 (b := w.heap.size + 1) (o := 1) (v := .int .i32 yb) q1
       replace q2 := kept_cell g8 (b := w.heap.size + 1) (o := 2) (v := .int .i32 zb) q2
       replace q3 := kept_cell g8 (b := w.heap.size + 1) (o := 3) (v := .int .i32 tb) q3
       replace n0 := kept_cell g8 (b := w.heap.size + 1 + 1) (o := 0) (v := .int .i32 x) n0
       replace n1 := kept_cell g8 (b := w.heap.size + 1 + 1) (o := 1) (v := .int .i32 y) n1
       replace r0 := kept_cell g8 (b := w2.heap.size) (o := 0) (v := .int .i32 xa) r0
       replace r1 := kept_cell g8 (b := w2.heap.size) (o := 1) (v := .int .i32 ya) r1
       replace r2 := kept_cell g8 (b := w2.heap.size) (o := 2) (v := .int .i32 za) r2
       replace r3 := kept_cell g8 (b := w2.heap.size) (o := 3) (v := .int .i32 ta) r3
       replace s0 := kept_cell g8 (b := w3.heap.size) (o := 0) (v := .int .i32 xb) s0
       replace s1 := kept_cell g8 (b := w3.heap.size) (o := 1) (v := .int .i32 yb) s1
       replace s2 := kept_cell g8 (b := w3.heap.size) (o := 2) (v := .int .i32 zb) s2
       replace s3 := kept_cell g8 (b := w3.heap.size) (o := 3) (v := .int .i32 tb) s3
       replace k0 := kept_cell g8 (b := w4.heap.size) (o := 0) (v := .int .i32 1) k0
       replace k1 := kept_cell g8 (b := w4.heap.size) (o := 1) (v := .int .i32 0) k1
       replace k2 := kept_cell g8 (b := w4.heap.size) (o := 2) (v := .int .i32 0) k2
       replace k3 := kept_cell g8 (b := w4.heap.size) (o := 3) (v := .int .i32 0) k3
       replace l0 := kept_cell g8 (b := w5.heap.size) (o := 0) (v := .int .i32 u0) l0
       replace l1 := kept_cell g8 (b := w5.heap.size) (o := 1) (v := .int .i32 u1) l1
       replace l2 := kept_cell g8 (b := w5.heap.size) (o := 2) (v := .int .i32 u2) l2
       replace l3 := kept_cell g8 (b := w5.heap.size) (o := 3) (v := .int .i32 u3) l3
       replace gg := grown_trans gg g8
       have zp_w8 : w.heap.size < w8.heap.size := World.block_lt_of_cell? _ _ p0
       have zq_w8 : w.heap.size + 1 < w8.heap.size := World.block_lt_of_cell? _ _ q0
       have zn_w8 : w.heap.size + 1 + 1 < w8.heap.size := World.block_lt_of_cell? _ _ n0
       have zr_w8 : w2.heap.size < w8.heap.size := World.block_lt_of_cell? _ _ r0
       have zs_w8 : w3.heap.size < w8.heap.size := World.block_lt_of_cell? _ _ s0
       have zk_w8 : w4.heap.size < w8.heap.size := World.block_lt_of_cell? _ _ k0
       have zl_w8 : w5.heap.size < w8.heap.size := World.block_lt_of_cell? _ _ l0)
    | ((with_reducible refine (RA.out _).mono ?_); rintro e w9 ⟨rfl, g9⟩
       replace p0 := kept_cell g9 (b := w.heap.size) (o := 0) (v := .int .i32 xa) p0
       replace p1 := kept_cell g9 (b := w.heap.size) (o := 1) (v := .int .i32 ya) p1
       replace p2 := kept_cell g9 (b := w.heap.size) (o := 2) (v := .int .i32 za) p2
       replace p3 := kept_cell g9 (b := w.heap.size) (o := 3) (v := .int .i32 ta) p3
       replace q0 := kept_cell g9 (b := w.heap.size + 1) (o := 0) (v := .int .i32 xb) q0
       replace q1 := kept_cell g9 (b := w.heap.size + 1) (o := 1) (v := .int .i32 yb) q1
       replace q2 := kept_cell g9 (b := w.heap.size + 1) (o := 2) (v := .int .i32 zb) q2
       replace q3 := kept_cell g9 (b := w.heap.size + 1) (o := 3) (v := .int .i32 tb) q3
       replace n0 := kept_cell g9 (b := w.heap.size + 1 + 1) (o := 0) (v := .int .i32 x) n0
       replace n1 := kept_cell g9 (b := w.heap.size + 1 + 1) (o := 1) (v := .int .i32 y) n1
       replace r0 := kept_cell g9 (b := w2.heap.size) (o := 0) (v := .int .i32 xa) r0
       replace r1 := kept_cell g9 (b := w2.heap.size) (o := 1) (v := .int .i32 ya) r1
       replace r2 := kept_cell g9 (b := w2.heap.size) (o := 2) (v := .int .i32 za) r2
       replace r3 := kept_cell g9 (b := w2.heap.size) (o := 3) (v := .int .i32 ta) r3
       replace s0 := kept_cell g9 (b := w3.heap.size) (o := 0) (v := .int .i32 xb) s0
       replace s1 := kept_cell g9 (b := w3.heap.size) (o := 1) (v := .int .i32 yb) s1
       replace s2 := kept_cell g9 (b := w3.heap.size) (o := 2) (v := .int .i32 zb) s2
       replace s3 := kept_cell g9 (b := w3.heap.size) (o := 3) (v := .int .i32 tb) s3
       replace k0 := kept_cell g9 (b := w4.heap.size) (o := 0) (v := .int .i32 1) k0
       replace k1 := kept_cell g9 (b := w4.heap.size) (o := 1) (v := .int .i32 0) k1
       replace k2 := kept_cell g9 (b := w4.heap.size) (o := 2) (v := .int .i32 0) k2
       replace k3 := kept_cell g9 (b := w4.heap.size) (o := 3) (v := .int .i32 0) k3
       replace l0 := kept_cell g9 (b := w5.heap.size) (o := 0) (v := .int .i32 u0) l0
       replace l1 := kept_cell g9 (b := w5.heap.size) (o := 1) (v := .int .i32 u1) l1
       replace l2 := kept_cell g9 (b := w5.heap.size) (o := 2) (v := .int .i32 u2) l2
       replace l3 := kept_cell g9 (b := w5.heap.size) (o := 3) (v := .int .i32 u3) l3
       replace gg := grown_trans gg g9
       have zp_w9 : w.heap.size < w9.heap.size := World.block_lt_of_cell? _ _ p0
       have zq_w9 : w.heap.size + 1 < w9.heap.size := World.block_lt_of_cell? _ _ q0
       have zn_w9 : w.heap.size + 1 + 1 < w9.heap.size := World.block_lt_of_cell? _ _ n0
       have zr_w9 : w2.heap.size < w9.heap.size := World.block_lt_of_cell? _ _ r0
       have zs_w9 : w3.heap.size < w9.heap.size := World.block_lt_of_cell? _ _ s0
       have zk_w9 : w4.heap.size < w9.heap.size := World.block_lt_of_cell? _ _ k0
       have zl_w9 : w5.heap.size < w9.heap.size := World.block_lt_of_cell? _ _ l0)
    | ((with_reducible refine (RB.out _).mono ?_); rintro e w10 ⟨rfl, g10⟩
       replace p0 := kept_cell g10 (b := w.heap.size) (o := 0) (v := .int .i32 xa) p0
       replace p1 := kept_cell g10 (b := w.heap.size) (o := 1) (v := .int .i32 ya) p1
       replace p2 := kept_cell g10 (b := w.heap.size) (o := 2) (v := .int .i32 za) p2
       replace p3 := kept_cell g10 (b := w.heap.size) (o := 3) (v := .int .i32 ta) p3
       replace q0 := kept_cell g10 (b := w.heap.size + 1) (o := 0) (v := .int .i32 xb) q0
       replace q1 := kept_cell g10 (b := w.heap.size + 1) (o := 1) (v := .int .i32 yb) q1
       replace q2 := kept_cell g10 (b := w.heap.size + 1) (o := 2) (v := .int .i32 zb) q2
       replace q3 := kept_cell g10 (b := w.heap.size + 1) (o := 3) (v := .int .i32 tb) q3
       replace n0 := kept_cell g10 (b := w.heap.size + 1 + 1) (o := 0) (v := .int .i32 x) n0
       replace n1 := kept_cell g10 (b := w.heap.size + 1 + 1) (o := 1) (v := .int .i32 y) n1
       replace r0 := kept_cell g10 (b := w2.heap.size) (o := 0) (v := .int .i32 xa) r0
       replace r1 := kept_cell g10 (b := w2.heap.size) (o := 1) (v := .int .i32 ya) r1
       replace r2 := kept_cell g10 (b := w2.heap.size) (o := 2) (v := .int .i32 za) r2
       replace r3 := kept_cell g10 (b := w2.heap.size) (o := 3) (v := .int .i32 ta) r3
       replace s0 := kept_cell g10 (b := w3.heap.size) (o := 0) (v := .int .i32 xb) s0
       replace s1 := kept_cell g10 (b := w3.heap.size) (o := 1) (v := .int .i32 yb) s1
       replace s2 := kept_cell g10 (b := w3.heap.size) (o := 2) (v := .int .i32 zb) s2
       replace s3 := kept_cell g10 (b := w3.heap.size) (o := 3) (v := .int .i32 tb) s3
       replace k0 := kept_cell g10 (b := w4.heap.size) (o := 0) (v := .int .i32 1) k0
       replace k1 := kept_cell g10 (b := w4.heap.size) (o := 1) (v := .int .i32 0) k1
       replace k2 := kept_cell g10 (b := w4.heap.size) (o := 2) (v := .int .i32 0) k2
       replace k3 := kept_cell g10 (b := w4.heap.size) (o := 3) (v := .int .i32 0) k3
       replace l0 := kept_cell g10 (b := w5.heap.size) (o := 0) (v := .int .i32 u0) l0
       replace l1 := kept_cell g10 (b := w5.heap.size) (o := 1) (v := .int .i32 u1) l1
       replace l2 := kept_cell g10 (b := w5.heap.size) (o := 2) (v := .int .i32 u2) l2
       replace l3 := kept_cell g10 (b := w5.heap.size) (o := 3) (v := .int .i32 u3) l3
       replace gg := grown_trans gg g10
       have zp_w10 : w.heap.size < w10.heap.size := World.block_lt_of_cell? _ _ p0
       have zq_w10 : w.heap.size + 1 < w10.heap.size := World.block_lt_of_cell? _ _ q0
       have zn_w10 : w.heap.size + 1 + 1 < w10.heap.size := World.block_lt_of_cell? _ _ n0
       have zr_w10 : w2.heap.size < w10.heap.size := World.block_lt_of_cell? _ _ r0
       have zs_w10 : w3.heap.size < w10.heap.size := World.block_lt_of_cell? _ _ s0
       have zk_w10 : w4.heap.size < w10.heap.size := World.block_lt_of_cell? _ _ k0
       have zl_w10 : w5.heap.size < w10.heap.size := World.block_lt_of_cell? _ _ l0))
  go_ret
  exact ⟨rfl, gg⟩
set_option maxRecDepth 100000 in
set_option maxHeartbeats 8000000 in
theorem btl_00101 (xa ya za ta xb yb zb tb x y u0 u1 u2 u3 : Int) (AW : Hid BAwake) (M1 : Hid (BMe xa ya za ta xb yb zb tb 1 0 0 0)) (U1 : Hid (BUn xa ya za ta xb yb zb tb u0 u1 u2 u3)) (K1 : Hid (BCo xa ya za ta x y false)) (K2 : Hid (BCo xb yb zb tb x y true)) (C3 : Hid (BCo 1 0 0 0 x y false)) (C4 : Hid (BCo u0 u1 u2 u3 x y true)) (O1 : Hid (BOv xa ya za ta xb yb zb tb false)) (E1 : Hid (BEm 1 0 0 0 true)) (RA : Hid (REm xa ya za ta false)) (RB : Hid (REm xb yb zb tb false)) (t0 : min xa xb = u0) (t1 : min ya yb = u1) (t2 : max za zb = u2) (t3 : max ta tb = u3) (w : World) :
    Calls Try.prog 5 #[.agg #[.int .i32 xa, .int .i32 ya, .int .i32 za, .int .i32 ta], .agg #[.int .i32 xb, .int .i32 yb, .int .i32 zb, .int .i32 tb], .agg #[.int .i32 x, .int .i32 y]] w fun e w' => e = .returned (.bool true) ∧ Grown w w' := by
  have F1 := Lib.hid (fwd xa ya za ta)
  have F2 := Lib.hid (fwd xb yb zb tb)
  have v1 := fun w => box_neq 1 0 0 0 w
  have y0 : (u0 == u0) = true := by simp
  have y1 : (u1 == u1) = true := by simp
  have y2 : (u2 == u2) = true := by simp
  have y3 : (u3 == u3) = true := by simp
  go_enter Try.func5, Try.ntmps5
  go_wp2_with (first
    | ((with_reducible refine (AW.out _).mono ?_); rintro e w1 ⟨rfl, g1⟩
       have p0 := kept_cell g1 (b := w.heap.size) (o := 0) (v := .int .i32 xa) (by (repeat (first | rw [World.cell?_drew] | rw [World.cell?_alloc_past _ _ _ (by first | (simp; done) | (simp; omega))])); rw [World.cell?_alloc_at _ _ _ _ (by simp)]; rfl)
       have p1 := kept_cell g1 (b := w.heap.size) (o := 1) (v := .int .i32 ya) (by (repeat (first | rw [World.cell?_drew] | rw [World.cell?_alloc_past _ _ _ (by first | (simp; done) | (simp; omega))])); rw [World.cell?_alloc_at _ _ _ _ (by simp)]; rfl)
       have p2 := kept_cell g1 (b := w.heap.size) (o := 2) (v := .int .i32 za) (by (repeat (first | rw [World.cell?_drew] | rw [World.cell?_alloc_past _ _ _ (by first | (simp; done) | (simp; omega))])); rw [World.cell?_alloc_at _ _ _ _ (by simp)]; rfl)
       have p3 := kept_cell g1 (b := w.heap.size) (o := 3) (v := .int .i32 ta) (by (repeat (first | rw [World.cell?_drew] | rw [World.cell?_alloc_past _ _ _ (by first | (simp; done) | (simp; omega))])); rw [World.cell?_alloc_at _ _ _ _ (by simp)]; rfl)
       have q0 := kept_cell g1 (b := w.heap.size + 1) (o := 0) (v := .int .i32 xb) (by (repeat (first | rw [World.cell?_drew] | rw [World.cell?_alloc_past _ _ _ (by first | (simp; done) | (simp; omega))])); rw [World.cell?_alloc_at _ _ _ _ (by simp)]; rfl)
       have q1 := kept_cell g1 (b := w.heap.size + 1) (o := 1) (v := .int .i32 yb) (by (repeat (first | rw [World.cell?_drew] | rw [World.cell?_alloc_past _ _ _ (by first | (simp; done) | (simp; omega))])); rw [World.cell?_alloc_at _ _ _ _ (by simp)]; rfl)
       have q2 := kept_cell g1 (b := w.heap.size + 1) (o := 2) (v := .int .i32 zb) (by (repeat (first | rw [World.cell?_drew] | rw [World.cell?_alloc_past _ _ _ (by first | (simp; done) | (simp; omega))])); rw [World.cell?_alloc_at _ _ _ _ (by simp)]; rfl)
       have q3 := kept_cell g1 (b := w.heap.size + 1) (o := 3) (v := .int .i32 tb) (by (repeat (first | rw [World.cell?_drew] | rw [World.cell?_alloc_past _ _ _ (by first | (simp; done) | (simp; omega))])); rw [World.cell?_alloc_at _ _ _ _ (by simp)]; rfl)
       have n0 := kept_cell g1 (b := w.heap.size + 1 + 1) (o := 0) (v := .int .i32 x) (by (repeat (first | rw [World.cell?_drew] | rw [World.cell?_alloc_past _ _ _ (by first | (simp; done) | (simp; omega))])); rw [World.cell?_alloc_at _ _ _ _ (by simp)]; rfl)
       have n1 := kept_cell g1 (b := w.heap.size + 1 + 1) (o := 1) (v := .int .i32 y) (by (repeat (first | rw [World.cell?_drew] | rw [World.cell?_alloc_past _ _ _ (by first | (simp; done) | (simp; omega))])); rw [World.cell?_alloc_at _ _ _ _ (by simp)]; rfl)
       have gg := grown_trans ((((Grown.refl _).alloc _ _).alloc _ _).alloc _ _) g1
       have zp_w1 : w.heap.size < w1.heap.size := World.block_lt_of_cell? _ _ p0
       have zq_w1 : w.heap.size + 1 < w1.heap.size := World.block_lt_of_cell? _ _ q0
       have zn_w1 : w.heap.size + 1 + 1 < w1.heap.size := World.block_lt_of_cell? _ _ n0)
    | ((with_reducible refine (F1.out _).mono ?_); rintro e w2 ⟨rfl, g2⟩
       replace p0 := kept_cell g2 (b := w.heap.size) (o := 0) (v := .int .i32 xa) p0
       replace p1 := kept_cell g2 (b := w.heap.size) (o := 1) (v := .int .i32 ya) p1
       replace p2 := kept_cell g2 (b := w.heap.size) (o := 2) (v := .int .i32 za) p2
       replace p3 := kept_cell g2 (b := w.heap.size) (o := 3) (v := .int .i32 ta) p3
       replace q0 := kept_cell g2 (b := w.heap.size + 1) (o := 0) (v := .int .i32 xb) q0
       replace q1 := kept_cell g2 (b := w.heap.size + 1) (o := 1) (v := .int .i32 yb) q1
       replace q2 := kept_cell g2 (b := w.heap.size + 1) (o := 2) (v := .int .i32 zb) q2
       replace q3 := kept_cell g2 (b := w.heap.size + 1) (o := 3) (v := .int .i32 tb) q3
       replace n0 := kept_cell g2 (b := w.heap.size + 1 + 1) (o := 0) (v := .int .i32 x) n0
       replace n1 := kept_cell g2 (b := w.heap.size + 1 + 1) (o := 1) (v := .int .i32 y) n1
       replace gg := grown_trans gg g2
       have zp_w2 : w.heap.size < w2.heap.size := World.block_lt_of_cell? _ _ p0
       have zq_w2 : w.heap.size + 1 < w2.heap.size := World.block_lt_of_cell? _ _ q0
       have zn_w2 : w.heap.size + 1 + 1 < w2.heap.size := World.block_lt_of_cell? _ _ n0)
    | ((with_reducible refine (F2.out _).mono ?_); rintro e w3 ⟨rfl, g3⟩
       replace p0 := kept_cell g3 (b := w.heap.size) (o := 0) (v := .int .i32 xa) (alloc_one p0)
       replace p1 := kept_cell g3 (b := w.heap.size) (o := 1) (v := .int .i32 ya) (alloc_one p1)
       replace p2 := kept_cell g3 (b := w.heap.size) (o := 2) (v := .int .i32 za) (alloc_one p2)
       replace p3 := kept_cell g3 (b := w.heap.size) (o := 3) (v := .int .i32 ta) (alloc_one p3)
       replace q0 := kept_cell g3 (b := w.heap.size + 1) (o := 0) (v := .int .i32 xb) (alloc_one q0)
       replace q1 := kept_cell g3 (b := w.heap.size + 1) (o := 1) (v := .int .i32 yb) (alloc_one q1)
       replace q2 := kept_cell g3 (b := w.heap.size + 1) (o := 2) (v := .int .i32 zb) (alloc_one q2)
       replace q3 := kept_cell g3 (b := w.heap.size + 1) (o := 3) (v := .int .i32 tb) (alloc_one q3)
       replace n0 := kept_cell g3 (b := w.heap.size + 1 + 1) (o := 0) (v := .int .i32 x) (alloc_one n0)
       replace n1 := kept_cell g3 (b := w.heap.size + 1 + 1) (o := 1) (v := .int .i32 y) (alloc_one n1)
       have r0 := kept_cell g3 (b := w2.heap.size) (o := 0) (v := .int .i32 xa) (by (repeat (first | rw [World.cell?_drew] | rw [World.cell?_alloc_past _ _ _ (by first | (simp; done) | (simp; omega))])); rw [World.cell?_alloc_at _ _ _ _ (by simp)]; rfl)
       have r1 := kept_cell g3 (b := w2.heap.size) (o := 1) (v := .int .i32 ya) (by (repeat (first | rw [World.cell?_drew] | rw [World.cell?_alloc_past _ _ _ (by first | (simp; done) | (simp; omega))])); rw [World.cell?_alloc_at _ _ _ _ (by simp)]; rfl)
       have r2 := kept_cell g3 (b := w2.heap.size) (o := 2) (v := .int .i32 za) (by (repeat (first | rw [World.cell?_drew] | rw [World.cell?_alloc_past _ _ _ (by first | (simp; done) | (simp; omega))])); rw [World.cell?_alloc_at _ _ _ _ (by simp)]; rfl)
       have r3 := kept_cell g3 (b := w2.heap.size) (o := 3) (v := .int .i32 ta) (by (repeat (first | rw [World.cell?_drew] | rw [World.cell?_alloc_past _ _ _ (by first | (simp; done) | (simp; omega))])); rw [World.cell?_alloc_at _ _ _ _ (by simp)]; rfl)
       replace gg := grown_trans (gg.alloc _ _) g3
       have zp_w3 : w.heap.size < w3.heap.size := World.block_lt_of_cell? _ _ p0
       have zq_w3 : w.heap.size + 1 < w3.heap.size := World.block_lt_of_cell? _ _ q0
       have zn_w3 : w.heap.size + 1 + 1 < w3.heap.size := World.block_lt_of_cell? _ _ n0
       have zr_w3 : w2.heap.size < w3.heap.size := World.block_lt_of_cell? _ _ r0)
    | ((with_reducible refine (M1.out _).mono ?_); rintro e w4 ⟨rfl, g4⟩
       replace p0 := kept_cell g4 (b := w.heap.size) (o := 0) (v := .int .i32 xa) (alloc_one p0)
       replace p1 := kept_cell g4 (b := w.heap.size) (o := 1) (v := .int .i32 ya) (alloc_one p1)
       replace p2 := kept_cell g4 (b := w.heap.size) (o := 2) (v := .int .i32 za) (alloc_one p2)
       replace p3 := kept_cell g4 (b := w.heap.size) (o := 3) (v := .int .i32 ta) (alloc_one p3)
       replace q0 := kept_cell g4 (b := w.heap.size + 1) (o := 0) (v := .int .i32 xb) (alloc_one q0)
       replace q1 := kept_cell g4 (b := w.heap.size + 1) (o := 1) (v := .int .i32 yb) (alloc_one q1)
       replace q2 := kept_cell g4 (b := w.heap.size + 1) (o := 2) (v := .int .i32 zb) (alloc_one q2)
       replace q3 := kept_cell g4 (b := w.heap.size + 1) (o := 3) (v := .int .i32 tb) (alloc_one q3)
       replace n0 := kept_cell g4 (b := w.heap.size + 1 + 1) (o := 0) (v := .int .i32 x) (alloc_one n0)
       replace n1 := kept_cell g4 (b := w.heap.size + 1 + 1) (o := 1) (v := .int .i32 y) (alloc_one n1)
       replace r0 := kept_cell g4 (b := w2.heap.size) (o := 0) (v := .int .i32 xa) (alloc_one r0)
       replace r1 := kept_cell g4 (b := w2.heap.size) (o := 1) (v := .int .i32 ya) (alloc_one r1)
       replace r2 := kept_cell g4 (b := w2.heap.size) (o := 2) (v := .int .i32 za) (alloc_one r2)
       replace r3 := kept_cell g4 (b := w2.heap.size) (o := 3) (v := .int .i32 ta) (alloc_one r3)
       have s0 := kept_cell g4 (b := w3.heap.size) (o := 0) (v := .int .i32 xb) (by (repeat (first | rw [World.cell?_drew] | rw [World.cell?_alloc_past _ _ _ (by first | (simp; done) | (simp; omega))])); rw [World.cell?_alloc_at _ _ _ _ (by simp)]; rfl)
       have s1 := kept_cell g4 (b := w3.heap.size) (o := 1) (v := .int .i32 yb) (by (repeat (first | rw [World.cell?_drew] | rw [World.cell?_alloc_past _ _ _ (by first | (simp; done) | (simp; omega))])); rw [World.cell?_alloc_at _ _ _ _ (by simp)]; rfl)
       have s2 := kept_cell g4 (b := w3.heap.size) (o := 2) (v := .int .i32 zb) (by (repeat (first | rw [World.cell?_drew] | rw [World.cell?_alloc_past _ _ _ (by first | (simp; done) | (simp; omega))])); rw [World.cell?_alloc_at _ _ _ _ (by simp)]; rfl)
       have s3 := kept_cell g4 (b := w3.heap.size) (o := 3) (v := .int .i32 tb) (by (repeat (first | rw [World.cell?_drew] | rw [World.cell?_alloc_past _ _ _ (by first | (simp; done) | (simp; omega))])); rw [World.cell?_alloc_at _ _ _ _ (by simp)]; rfl)
       replace gg := grown_trans (gg.alloc _ _) g4
       have zp_w4 : w.heap.size < w4.heap.size := World.block_lt_of_cell? _ _ p0
       have zq_w4 : w.heap.size + 1 < w4.heap.size := World.block_lt_of_cell? _ _ q0
       have zn_w4 : w.heap.size + 1 + 1 < w4.heap.size := World.block_lt_of_cell? _ _ n0
       have zr_w4 : w2.heap.size < w4.heap.size := World.block_lt_of_cell? _ _ r0
       have zs_w4 : w3.heap.size < w4.heap.size := World.block_lt_of_cell? _ _ s0)
    | ((with_reducible refine (U1.out _).mono ?_); rintro e w5 ⟨rfl, g5⟩
       replace p0 := kept_cell g5 (b := w.heap.size) (o := 0) (v := .int .i32 xa) (alloc_one p0)
       replace p1 := kept_cell g5 (b := w.heap.size) (o := 1) (v := .int .i32 ya) (alloc_one p1)
       replace p2 := kept_cell g5 (b := w.heap.size) (o := 2) (v := .int .i32 za) (alloc_one p2)
       replace p3 := kept_cell g5 (b := w.heap.size) (o := 3) (v := .int .i32 ta) (alloc_one p3)
       replace q0 := kept_cell g5 (b := w.heap.size + 1) (o := 0) (v := .int .i32 xb) (alloc_one q0)
       replace q1 := kept_cell g5 (b := w.heap.size + 1) (o := 1) (v := .int .i32 yb) (alloc_one q1)
       replace q2 := kept_cell g5 (b := w.heap.size + 1) (o := 2) (v := .int .i32 zb) (alloc_one q2)
       replace q3 := kept_cell g5 (b := w.heap.size + 1) (o := 3) (v := .int .i32 tb) (alloc_one q3)
       replace n0 := kept_cell g5 (b := w.heap.size + 1 + 1) (o := 0) (v := .int .i32 x) (alloc_one n0)
       replace n1 := kept_cell g5 (b := w.heap.size + 1 + 1) (o := 1) (v := .int .i32 y) (alloc_one n1)
       replace r0 := kept_cell g5 (b := w2.heap.size) (o := 0) (v := .int .i32 xa) (alloc_one r0)
       replace r1 := kept_cell g5 (b := w2.heap.size) (o := 1) (v := .int .i32 ya) (alloc_one r1)
       replace r2 := kept_cell g5 (b := w2.heap.size) (o := 2) (v := .int .i32 za) (alloc_one r2)
       replace r3 := kept_cell g5 (b := w2.heap.size) (o := 3) (v := .int .i32 ta) (alloc_one r3)
       replace s0 := kept_cell g5 (b := w3.heap.size) (o := 0) (v := .int .i32 xb) (alloc_one s0)
       replace s1 := kept_cell g5 (b := w3.heap.size) (o := 1) (v := .int .i32 yb) (alloc_one s1)
       replace s2 := kept_cell g5 (b := w3.heap.size) (o := 2) (v := .int .i32 zb) (alloc_one s2)
       replace s3 := kept_cell g5 (b := w3.heap.size) (o := 3) (v := .int .i32 tb) (alloc_one s3)
       have k0 := kept_cell g5 (b := w4.heap.size) (o := 0) (v := .int .i32 1) (by (repeat (first | rw [World.cell?_drew] | rw [World.cell?_alloc_past _ _ _ (by first | (simp; done) | (simp; omega))])); rw [World.cell?_alloc_at _ _ _ _ (by simp)]; rfl)
       have k1 := kept_cell g5 (b := w4.heap.size) (o := 1) (v := .int .i32 0) (by (repeat (first | rw [World.cell?_drew] | rw [World.cell?_alloc_past _ _ _ (by first | (simp; done) | (simp; omega))])); rw [World.cell?_alloc_at _ _ _ _ (by simp)]; rfl)
       have k2 := kept_cell g5 (b := w4.heap.size) (o := 2) (v := .int .i32 0) (by (repeat (first | rw [World.cell?_drew] | rw [World.cell?_alloc_past _ _ _ (by first | (simp; done) | (simp; omega))])); rw [World.cell?_alloc_at _ _ _ _ (by simp)]; rfl)
       have k3 := kept_cell g5 (b := w4.heap.size) (o := 3) (v := .int .i32 0) (by (repeat (first | rw [World.cell?_drew] | rw [World.cell?_alloc_past _ _ _ (by first | (simp; done) | (simp; omega))])); rw [World.cell?_alloc_at _ _ _ _ (by simp)]; rfl)
       replace gg := grown_trans (gg.alloc _ _) g5
       have zp_w5 : w.heap.size < w5.heap.size := World.block_lt_of_cell? _ _ p0
       have zq_w5 : w.heap.size + 1 < w5.heap.size := World.block_lt_of_cell? _ _ q0
       have zn_w5 : w.heap.size + 1 + 1 < w5.heap.size := World.block_lt_of_cell? _ _ n0
       have zr_w5 : w2.heap.size < w5.heap.size := World.block_lt_of_cell? _ _ r0
       have zs_w5 : w3.heap.size < w5.heap.size := World.block_lt_of_cell? _ _ s0
       have zk_w5 : w4.heap.size < w5.heap.size := World.block_lt_of_cell? _ _ k0)
    | ((with_reducible refine (K1.out _).mono ?_); rintro e w6 ⟨rfl, g6⟩
       replace p0 := kept_cell g6 (b := w.heap.size) (o := 0) (v := .int .i32 xa) (alloc_one p0)
       replace p1 := kept_cell g6 (b := w.heap.size) (o := 1) (v := .int .i32 ya) (alloc_one p1)
       replace p2 := kept_cell g6 (b := w.heap.size) (o := 2) (v := .int .i32 za) (alloc_one p2)
       replace p3 := kept_cell g6 (b := w.heap.size) (o := 3) (v := .int .i32 ta) (alloc_one p3)
       replace q0 := kept_cell g6 (b := w.heap.size + 1) (o := 0) (v := .int .i32 xb) (alloc_one q0)
       replace q1 := kept_cell g6 (b := w.heap.size + 1) (o := 1) (v := .int .i32 yb) (alloc_one q1)
       replace q2 := kept_cell g6 (b := w.heap.size + 1) (o := 2) (v := .int .i32 zb) (alloc_one q2)
       replace q3 := kept_cell g6 (b := w.heap.size + 1) (o := 3) (v := .int .i32 tb) (alloc_one q3)
       replace n0 := kept_cell g6 (b := w.heap.size + 1 + 1) (o := 0) (v := .int .i32 x) (alloc_one n0)
       replace n1 := kept_cell g6 (b := w.heap.size + 1 + 1) (o := 1) (v := .int .i32 y) (alloc_one n1)
       replace r0 := kept_cell g6 (b := w2.heap.size) (o := 0) (v := .int .i32 xa) (alloc_one r0)
       replace r1 := kept_cell g6 (b := w2.heap.size) (o := 1) (v := .int .i32 ya) (alloc_one r1)
       replace r2 := kept_cell g6 (b := w2.heap.size) (o := 2) (v := .int .i32 za) (alloc_one r2)
       replace r3 := kept_cell g6 (b := w2.heap.size) (o := 3) (v := .int .i32 ta) (alloc_one r3)
       replace s0 := kept_cell g6 (b := w3.heap.size) (o := 0) (v := .int .i32 xb) (alloc_one s0)
       replace s1 := kept_cell g6 (b := w3.heap.size) (o := 1) (v := .int .i32 yb) (alloc_one s1)
       replace s2 := kept_cell g6 (b := w3.heap.size) (o := 2) (v := .int .i32 zb) (alloc_one s2)
       replace s3 := kept_cell g6 (b := w3.heap.size) (o := 3) (v := .int .i32 tb) (alloc_one s3)
       replace k0 := kept_cell g6 (b := w4.heap.size) (o := 0) (v := .int .i32 1) (alloc_one k0)
       replace k1 := kept_cell g6 (b := w4.heap.size) (o := 1) (v := .int .i32 0) (alloc_one k1)
       replace k2 := kept_cell g6 (b := w4.heap.size) (o := 2) (v := .int .i32 0) (alloc_one k2)
       replace k3 := kept_cell g6 (b := w4.heap.size) (o := 3) (v := .int .i32 0) (alloc_one k3)
       have l0 := kept_cell g6 (b := w5.heap.size) (o := 0) (v := .int .i32 u0) (by (repeat (first | rw [World.cell?_drew] | rw [World.cell?_alloc_past _ _ _ (by first | (simp; done) | (simp; omega))])); rw [World.cell?_alloc_at _ _ _ _ (by simp)]; rfl)
       have l1 := kept_cell g6 (b := w5.heap.size) (o := 1) (v := .int .i32 u1) (by (repeat (first | rw [World.cell?_drew] | rw [World.cell?_alloc_past _ _ _ (by first | (simp; done) | (simp; omega))])); rw [World.cell?_alloc_at _ _ _ _ (by simp)]; rfl)
       have l2 := kept_cell g6 (b := w5.heap.size) (o := 2) (v := .int .i32 u2) (by (repeat (first | rw [World.cell?_drew] | rw [World.cell?_alloc_past _ _ _ (by first | (simp; done) | (simp; omega))])); rw [World.cell?_alloc_at _ _ _ _ (by simp)]; rfl)
       have l3 := kept_cell g6 (b := w5.heap.size) (o := 3) (v := .int .i32 u3) (by (repeat (first | rw [World.cell?_drew] | rw [World.cell?_alloc_past _ _ _ (by first | (simp; done) | (simp; omega))])); rw [World.cell?_alloc_at _ _ _ _ (by simp)]; rfl)
       replace gg := grown_trans (gg.alloc _ _) g6
       have zp_w6 : w.heap.size < w6.heap.size := World.block_lt_of_cell? _ _ p0
       have zq_w6 : w.heap.size + 1 < w6.heap.size := World.block_lt_of_cell? _ _ q0
       have zn_w6 : w.heap.size + 1 + 1 < w6.heap.size := World.block_lt_of_cell? _ _ n0
       have zr_w6 : w2.heap.size < w6.heap.size := World.block_lt_of_cell? _ _ r0
       have zs_w6 : w3.heap.size < w6.heap.size := World.block_lt_of_cell? _ _ s0
       have zk_w6 : w4.heap.size < w6.heap.size := World.block_lt_of_cell? _ _ k0
       have zl_w6 : w5.heap.size < w6.heap.size := World.block_lt_of_cell? _ _ l0)
    | ((with_reducible refine (K2.out _).mono ?_); rintro e w7 ⟨rfl, g7⟩
       replace p0 := kept_cell g7 (b := w.heap.size) (o := 0) (v := .int .i32 xa) p0
       replace p1 := kept_cell g7 (b := w.heap.size) (o := 1) (v := .int .i32 ya) p1
       replace p2 := kept_cell g7 (b := w.heap.size) (o := 2) (v := .int .i32 za) p2
       replace p3 := kept_cell g7 (b := w.heap.size) (o := 3) (v := .int .i32 ta) p3
       replace q0 := kept_cell g7 (b := w.heap.size + 1) (o := 0) (v := .int .i32 xb) q0
       replace q1 := kept_cell g7 (b := w.heap.size + 1) (o := 1) (v := .int .i32 yb) q1
       replace q2 := kept_cell g7 (b := w.heap.size + 1) (o := 2) (v := .int .i32 zb) q2
       replace q3 := kept_cell g7 (b := w.heap.size + 1) (o := 3) (v := .int .i32 tb) q3
       replace n0 := kept_cell g7 (b := w.heap.size + 1 + 1) (o := 0) (v := .int .i32 x) n0
       replace n1 := kept_cell g7 (b := w.heap.size + 1 + 1) (o := 1) (v := .int .i32 y) n1
       replace r0 := kept_cell g7 (b := w2.heap.size) (o := 0) (v := .int .i32 xa) r0
       replace r1 := kept_cell g7 (b := w2.heap.size) (o := 1) (v := .int .i32 ya) r1
       replace r2 := kept_cell g7 (b := w2.heap.size) (o := 2) (v := .int .i32 za) r2
       replace r3 := kept_cell g7 (b := w2.heap.size) (o := 3) (v := .int .i32 ta) r3
       replace s0 := kept_cell g7 (b := w3.heap.size) (o := 0) (v := .int .i32 xb) s0
       replace s1 := kept_cell g7 (b := w3.heap.size) (o := 1) (v := .int .i32 yb) s1
       replace s2 := kept_cell g7 (b := w3.heap.size) (o := 2) (v := .int .i32 zb) s2
       replace s3 := kept_cell g7 (b := w3.heap.size) (o := 3) (v := .int .i32 tb) s3
       replace k0 := kept_cell g7 (b := w4.heap.size) (o := 0) (v := .int .i32 1) k0
       replace k1 := kept_cell g7 (b := w4.heap.size) (o := 1) (v := .int .i32 0) k1
       replace k2 := kept_cell g7 (b := w4.heap.size) (o := 2) (v := .int .i32 0) k2
       replace k3 := kept_cell g7 (b := w4.heap.size) (o := 3) (v := .int .i32 0) k3
       replace l0 := kept_cell g7 (b := w5.heap.size) (o := 0) (v := .int .i32 u0) l0
       replace l1 := kept_cell g7 (b := w5.heap.size) (o := 1) (v := .int .i32 u1) l1
       replace l2 := kept_cell g7 (b := w5.heap.size) (o := 2) (v := .int .i32 u2) l2
       replace l3 := kept_cell g7 (b := w5.heap.size) (o := 3) (v := .int .i32 u3) l3
       replace gg := grown_trans gg g7
       have zp_w7 : w.heap.size < w7.heap.size := World.block_lt_of_cell? _ _ p0
       have zq_w7 : w.heap.size + 1 < w7.heap.size := World.block_lt_of_cell? _ _ q0
       have zn_w7 : w.heap.size + 1 + 1 < w7.heap.size := World.block_lt_of_cell? _ _ n0
       have zr_w7 : w2.heap.size < w7.heap.size := World.block_lt_of_cell? _ _ r0
       have zs_w7 : w3.heap.size < w7.heap.size := World.block_lt_of_cell? _ _ s0
       have zk_w7 : w4.heap.size < w7.heap.size := World.block_lt_of_cell? _ _ k0
       have zl_w7 : w5.heap.size < w7.heap.size := World.block_lt_of_cell? _ _ l0))
  refine wp_region_noPanic ?_
  refine wp_region_held_drew (S := (fun w' => w'.cell? ⟨w.heap.size, 0, none⟩ = some (.int .i32 xa) ∧ w'.cell? ⟨w.heap.size, 1, none⟩ = some (.int .i32 ya) ∧ w'.cell? ⟨w.heap.size, 2, none⟩ = some (.int .i32 za) ∧ w'.cell? ⟨w.heap.size, 3, none⟩ = some (.int .i32 ta) ∧ w'.cell? ⟨w.heap.size + 1, 0, none⟩ = some (.int .i32 xb) ∧ w'.cell? ⟨w.heap.size + 1, 1, none⟩ = some (.int .i32 yb) ∧ w'.cell? ⟨w.heap.size + 1, 2, none⟩ = some (.int .i32 zb) ∧ w'.cell? ⟨w.heap.size + 1, 3, none⟩ = some (.int .i32 tb) ∧ w'.cell? ⟨w.heap.size + 1 + 1, 0, none⟩ = some (.int .i32 x) ∧ w'.cell? ⟨w.heap.size + 1 + 1, 1, none⟩ = some (.int .i32 y) ∧ w'.cell? ⟨w2.heap.size, 0, none⟩ = some (.int .i32 xa) ∧ w'.cell? ⟨w2.heap.size, 1, none⟩ = some (.int .i32 ya) ∧ w'.cell? ⟨w2.heap.size, 2, none⟩ = some (.int .i32 za) ∧ w'.cell? ⟨w2.heap.size, 3, none⟩ = some (.int .i32 ta) ∧ w'.cell? ⟨w3.heap.size, 0, none⟩ = some (.int .i32 xb) ∧ w'.cell? ⟨w3.heap.size, 1, none⟩ = some (.int .i32 yb) ∧ w'.cell? ⟨w3.heap.size, 2, none⟩ = some (.int .i32 zb) ∧ w'.cell? ⟨w3.heap.size, 3, none⟩ = some (.int .i32 tb) ∧ w'.cell? ⟨w4.heap.size, 0, none⟩ = some (.int .i32 1) ∧ w'.cell? ⟨w4.heap.size, 1, none⟩ = some (.int .i32 0) ∧ w'.cell? ⟨w4.heap.size, 2, none⟩ = some (.int .i32 0) ∧ w'.cell? ⟨w4.heap.size, 3, none⟩ = some (.int .i32 0) ∧ w'.cell? ⟨w5.heap.size, 0, none⟩ = some (.int .i32 u0) ∧ w'.cell? ⟨w5.heap.size, 1, none⟩ = some (.int .i32 u1) ∧ w'.cell? ⟨w5.heap.size, 2, none⟩ = some (.int .i32 u2) ∧ w'.cell? ⟨w5.heap.size, 3, none⟩ = some (.int .i32 u3) ∧ Grown w w')) (by kernel_rfl) (⟨by rw [World.cell?_drew]; exact p0, by rw [World.cell?_drew]; exact p1, by rw [World.cell?_drew]; exact p2, by rw [World.cell?_drew]; exact p3, by rw [World.cell?_drew]; exact q0, by rw [World.cell?_drew]; exact q1, by rw [World.cell?_drew]; exact q2, by rw [World.cell?_drew]; exact q3, by rw [World.cell?_drew]; exact n0, by rw [World.cell?_drew]; exact n1, by rw [World.cell?_drew]; exact r0, by rw [World.cell?_drew]; exact r1, by rw [World.cell?_drew]; exact r2, by rw [World.cell?_drew]; exact r3, by rw [World.cell?_drew]; exact s0, by rw [World.cell?_drew]; exact s1, by rw [World.cell?_drew]; exact s2, by rw [World.cell?_drew]; exact s3, by rw [World.cell?_drew]; exact k0, by rw [World.cell?_drew]; exact k1, by rw [World.cell?_drew]; exact k2, by rw [World.cell?_drew]; exact k3, by rw [World.cell?_drew]; exact l0, by rw [World.cell?_drew]; exact l1, by rw [World.cell?_drew]; exact l2, by rw [World.cell?_drew]; exact l3, (gg).drew⟩) (fun hH => ?_)
  refine wpAnyH_take (i := 0) (oi := { dst := some 32, op := Op.load 31 (Operand.tmp 9), type := _, pos := _, after := _, guard := none }) (v := ?_) rfl (by kernel_rfl) (by kernel_rfl) (by kernel_rfl) (fun _ _ _ h => h) (Or.inl ⟨by rfl, ?_⟩) hH ?_
  rotate_left
  · (intro w hSw; (try dsimp only at hSw); go_simp; (try with_reducible rfl))
  try simp only [Act.put, List.setIfInBounds_toArray, List.set_cons_zero, List.set_cons_succ]
  refine wpAnyH_take (i := 1) (oi := { dst := some 33, op := Op.load 24 (Operand.tmp 5), type := _, pos := _, after := _, guard := none }) (v := ?_) rfl (by kernel_rfl) (by kernel_rfl) (by kernel_rfl) (fun _ _ _ h => h) (Or.inl ⟨by rfl, ?_⟩) hH ?_
  rotate_left
  · (intro w hSw; (try dsimp only at hSw); go_simp; (try with_reducible rfl))
  try simp only [Act.put, List.setIfInBounds_toArray, List.set_cons_zero, List.set_cons_succ]
  refine wpAnyH_take (i := 3) (oi := { dst := some 35, op := Op.move (Operand.tmp 11), type := _, pos := _, after := _, guard := none }) (v := ?_) rfl (by kernel_rfl) (by kernel_rfl) (by kernel_rfl) (fun _ _ _ h => h) (Or.inl ⟨by rfl, ?_⟩) hH ?_
  rotate_left
  · (intro w hSw; (try dsimp only at hSw); go_simp; (try with_reducible rfl))
  try simp only [Act.put, List.setIfInBounds_toArray, List.set_cons_zero, List.set_cons_succ]
  refine wpAnyH_ready (rs := [2]) (by kernel_rfl) (by simp) ?_
  refine AllReadyH.cons (o := { dst := some 34, op := Op.call { callee := Callee.value (Operand.func 17), args := #[Operand.tmp 32, Operand.tmp 33], argTypes := #[31, 24] }, type := _, pos := _, after := _, guard := none }) rfl (fun K hK => ?_) AllReadyH.nil
  go_simp
  (with_reducible refine (C3.out _).mono ?_); rintro e v8_2 ⟨rfl, g⟩
  refine hK.out _ _ (by (try dsimp only); (go_split_ands; exact ⟨kept_cell g (by assumption), kept_cell g (by assumption), kept_cell g (by assumption), kept_cell g (by assumption), kept_cell g (by assumption), kept_cell g (by assumption), kept_cell g (by assumption), kept_cell g (by assumption), kept_cell g (by assumption), kept_cell g (by assumption), kept_cell g (by assumption), kept_cell g (by assumption), kept_cell g (by assumption), kept_cell g (by assumption), kept_cell g (by assumption), kept_cell g (by assumption), kept_cell g (by assumption), kept_cell g (by assumption), kept_cell g (by assumption), kept_cell g (by assumption), kept_cell g (by assumption), kept_cell g (by assumption), kept_cell g (by assumption), kept_cell g (by assumption), kept_cell g (by assumption), kept_cell g (by assumption), grown_trans (by assumption) g⟩)) (fun hH2 => ?_)
  clear hK K hH; have hH := hH2; clear hH2
  try simp only [Act.put, List.setIfInBounds_toArray, List.set_cons_zero, List.set_cons_succ]
  refine wpAnyH_take (i := 4) (oi := { dst := some 36, op := Op.binOp BinOp.neq 4 (Operand.tmp 34) (Operand.tmp 35) 4, type := _, pos := _, after := _, guard := none }) (v := ?_) rfl (by kernel_rfl) (by kernel_rfl) (by kernel_rfl) (fun _ _ _ h => h) (Or.inl ⟨by rfl, ?_⟩) hH ?_
  rotate_left
  · (intro w hSw; (try dsimp only at hSw); go_simp; (try with_reducible rfl))
  try simp only [Act.put, List.setIfInBounds_toArray, List.set_cons_zero, List.set_cons_succ]
  refine wpAnyH_take (i := 5) (oi := { dst := some 37, op := Op.move (Operand.tmp 36), type := _, pos := _, after := _, guard := none }) (v := ?_) rfl (by kernel_rfl) (by kernel_rfl) (by kernel_rfl) (fun _ _ _ h => h) (Or.inl ⟨by rfl, ?_⟩) hH ?_
  rotate_left
  · (intro w hSw; (try dsimp only at hSw); go_simp; (try with_reducible rfl))
  try simp only [Act.put, List.setIfInBounds_toArray, List.set_cons_zero, List.set_cons_succ]
  refine wpAnyH_take (i := 6) (oi := { dst := some 38, op := Op.load 31 (Operand.tmp 7), type := _, pos := _, after := _, guard := some (5, false) }) (v := ?_) rfl (by kernel_rfl) (by kernel_rfl) (by kernel_rfl) (fun _ _ _ h => h) (Or.inl ⟨by rfl, ?_⟩) hH ?_
  rotate_left
  · (intro w hSw; (try dsimp only at hSw); go_simp; (try with_reducible rfl))
  try simp only [Act.put, List.setIfInBounds_toArray, List.set_cons_zero, List.set_cons_succ]
  refine wpAnyH_take (i := 7) (oi := { dst := some 39, op := Op.load 24 (Operand.tmp 5), type := _, pos := _, after := _, guard := some (5, false) }) (v := ?_) rfl (by kernel_rfl) (by kernel_rfl) (by kernel_rfl) (fun _ _ _ h => h) (Or.inl ⟨by rfl, ?_⟩) hH ?_
  rotate_left
  · (intro w hSw; (try dsimp only at hSw); go_simp; (try with_reducible rfl))
  try simp only [Act.put, List.setIfInBounds_toArray, List.set_cons_zero, List.set_cons_succ]
  refine wpAnyH_ready (rs := [8]) (by kernel_rfl) (by simp) ?_
  refine AllReadyH.cons (o := { dst := some 40, op := Op.call { callee := Callee.value (Operand.func 17), args := #[Operand.tmp 38, Operand.tmp 39], argTypes := #[31, 24] }, type := _, pos := _, after := _, guard := some (5, false) }) rfl (fun K hK => ?_) AllReadyH.nil
  go_simp
  (with_reducible refine (K1.out _).mono ?_); rintro e v8_8 ⟨rfl, g⟩
  refine hK.out _ _ (by (try dsimp only); (go_split_ands; exact ⟨kept_cell g (by assumption), kept_cell g (by assumption), kept_cell g (by assumption), kept_cell g (by assumption), kept_cell g (by assumption), kept_cell g (by assumption), kept_cell g (by assumption), kept_cell g (by assumption), kept_cell g (by assumption), kept_cell g (by assumption), kept_cell g (by assumption), kept_cell g (by assumption), kept_cell g (by assumption), kept_cell g (by assumption), kept_cell g (by assumption), kept_cell g (by assumption), kept_cell g (by assumption), kept_cell g (by assumption), kept_cell g (by assumption), kept_cell g (by assumption), kept_cell g (by assumption), kept_cell g (by assumption), kept_cell g (by assumption), kept_cell g (by assumption), kept_cell g (by assumption), kept_cell g (by assumption), grown_trans (by assumption) g⟩)) (fun hH2 => ?_)
  clear hK K hH; have hH := hH2; clear hH2
  try simp only [Act.put, List.setIfInBounds_toArray, List.set_cons_zero, List.set_cons_succ]
  refine wpAnyH_take (i := 9) (oi := { dst := some 41, op := Op.move (Operand.tmp 40), type := _, pos := _, after := _, guard := some (5, false) }) (v := ?_) rfl (by kernel_rfl) (by kernel_rfl) (by kernel_rfl) (fun _ _ _ h => h) (Or.inl ⟨by rfl, ?_⟩) hH ?_
  rotate_left
  · (intro w hSw; (try dsimp only at hSw); go_simp; (try with_reducible rfl))
  try simp only [Act.put, List.setIfInBounds_toArray, List.set_cons_zero, List.set_cons_succ]
  refine wpAnyH_take (i := 10) (oi := { dst := some 42, op := Op.load 31 (Operand.tmp 8), type := _, pos := _, after := _, guard := some (9, false) }) (v := ?_) rfl (by kernel_rfl) (by kernel_rfl) (by kernel_rfl) (fun _ _ _ h => h) (Or.inl ⟨by rfl, ?_⟩) hH ?_
  rotate_left
  · (intro w hSw; (try dsimp only at hSw); go_simp; (try with_reducible rfl))
  try simp only [Act.put, List.setIfInBounds_toArray, List.set_cons_zero, List.set_cons_succ]
  refine wpAnyH_take (i := 11) (oi := { dst := some 43, op := Op.load 24 (Operand.tmp 5), type := _, pos := _, after := _, guard := some (9, false) }) (v := ?_) rfl (by kernel_rfl) (by kernel_rfl) (by kernel_rfl) (fun _ _ _ h => h) (Or.inl ⟨by rfl, ?_⟩) hH ?_
  rotate_left
  · (intro w hSw; (try dsimp only at hSw); go_simp; (try with_reducible rfl))
  try simp only [Act.put, List.setIfInBounds_toArray, List.set_cons_zero, List.set_cons_succ]
  refine wpAnyH_ready (rs := [12]) (by kernel_rfl) (by simp) ?_
  refine AllReadyH.cons (o := { dst := some 44, op := Op.call { callee := Callee.value (Operand.func 17), args := #[Operand.tmp 42, Operand.tmp 43], argTypes := #[31, 24] }, type := _, pos := _, after := _, guard := some (9, false) }) rfl (fun K hK => ?_) AllReadyH.nil
  go_simp
  (with_reducible refine (K2.out _).mono ?_); rintro e v8_12 ⟨rfl, g⟩
  refine hK.out _ _ (by (try dsimp only); (go_split_ands; exact ⟨kept_cell g (by assumption), kept_cell g (by assumption), kept_cell g (by assumption), kept_cell g (by assumption), kept_cell g (by assumption), kept_cell g (by assumption), kept_cell g (by assumption), kept_cell g (by assumption), kept_cell g (by assumption), kept_cell g (by assumption), kept_cell g (by assumption), kept_cell g (by assumption), kept_cell g (by assumption), kept_cell g (by assumption), kept_cell g (by assumption), kept_cell g (by assumption), kept_cell g (by assumption), kept_cell g (by assumption), kept_cell g (by assumption), kept_cell g (by assumption), kept_cell g (by assumption), kept_cell g (by assumption), kept_cell g (by assumption), kept_cell g (by assumption), kept_cell g (by assumption), kept_cell g (by assumption), grown_trans (by assumption) g⟩)) (fun hH2 => ?_)
  clear hK K hH; have hH := hH2; clear hH2
  try simp only [Act.put, List.setIfInBounds_toArray, List.set_cons_zero, List.set_cons_succ]
  refine wpAnyH_take (i := 13) (oi := { dst := some 45, op := Op.pick (Operand.tmp 41) (Operand.const (Value.bool true)) (Operand.tmp 44), type := _, pos := _, after := _, guard := some (5, false) }) (v := ?_) rfl (by kernel_rfl) (by kernel_rfl) (by kernel_rfl) (fun _ _ _ h => h) (Or.inl ⟨by rfl, ?_⟩) hH ?_
  rotate_left
  · (intro w hSw; (try dsimp only at hSw); go_simp; (try with_reducible rfl))
  try simp only [Act.put, List.setIfInBounds_toArray, List.set_cons_zero, List.set_cons_succ]
  refine wpAnyH_take (i := 14) (oi := { dst := some 46, op := Op.move (Operand.tmp 45), type := _, pos := _, after := _, guard := some (5, false) }) (v := ?_) rfl (by kernel_rfl) (by kernel_rfl) (by kernel_rfl) (fun _ _ _ h => h) (Or.inl ⟨by rfl, ?_⟩) hH ?_
  rotate_left
  · (intro w hSw; (try dsimp only at hSw); go_simp; (try with_reducible rfl))
  try simp only [Act.put, List.setIfInBounds_toArray, List.set_cons_zero, List.set_cons_succ]
  refine wpAnyH_take (i := 15) (oi := { dst := some 47, op := Op.load 31 (Operand.tmp 10), type := _, pos := _, after := _, guard := some (14, true) }) (v := ?_) rfl (by kernel_rfl) (by kernel_rfl) (by kernel_rfl) (fun _ _ _ h => h) (Or.inl ⟨by rfl, ?_⟩) hH ?_
  rotate_left
  · (intro w hSw; (try dsimp only at hSw); go_simp; (try with_reducible rfl))
  try simp only [Act.put, List.setIfInBounds_toArray, List.set_cons_zero, List.set_cons_succ]
  refine wpAnyH_take (i := 16) (oi := { dst := some 48, op := Op.load 24 (Operand.tmp 5), type := _, pos := _, after := _, guard := some (14, true) }) (v := ?_) rfl (by kernel_rfl) (by kernel_rfl) (by kernel_rfl) (fun _ _ _ h => h) (Or.inl ⟨by rfl, ?_⟩) hH ?_
  rotate_left
  · (intro w hSw; (try dsimp only at hSw); go_simp; (try with_reducible rfl))
  try simp only [Act.put, List.setIfInBounds_toArray, List.set_cons_zero, List.set_cons_succ]
  refine wpAnyH_ready (rs := [17]) (by kernel_rfl) (by simp) ?_
  refine AllReadyH.cons (o := { dst := some 49, op := Op.call { callee := Callee.value (Operand.func 17), args := #[Operand.tmp 47, Operand.tmp 48], argTypes := #[31, 24] }, type := _, pos := _, after := _, guard := some (14, true) }) rfl (fun K hK => ?_) AllReadyH.nil
  go_simp
  (with_reducible refine (C4.out _).mono ?_); rintro e v8_17 ⟨rfl, g⟩
  refine hK.out _ _ (by (try dsimp only); (go_split_ands; exact ⟨kept_cell g (by assumption), kept_cell g (by assumption), kept_cell g (by assumption), kept_cell g (by assumption), kept_cell g (by assumption), kept_cell g (by assumption), kept_cell g (by assumption), kept_cell g (by assumption), kept_cell g (by assumption), kept_cell g (by assumption), kept_cell g (by assumption), kept_cell g (by assumption), kept_cell g (by assumption), kept_cell g (by assumption), kept_cell g (by assumption), kept_cell g (by assumption), kept_cell g (by assumption), kept_cell g (by assumption), kept_cell g (by assumption), kept_cell g (by assumption), kept_cell g (by assumption), kept_cell g (by assumption), kept_cell g (by assumption), kept_cell g (by assumption), kept_cell g (by assumption), kept_cell g (by assumption), grown_trans (by assumption) g⟩)) (fun hH2 => ?_)
  clear hK K hH; have hH := hH2; clear hH2
  try simp only [Act.put, List.setIfInBounds_toArray, List.set_cons_zero, List.set_cons_succ]
  refine wpAnyH_take (i := 18) (oi := { dst := some 50, op := Op.unOp UnOp.not 4 (Operand.tmp 49), type := _, pos := _, after := _, guard := some (14, true) }) (v := ?_) rfl (by kernel_rfl) (by kernel_rfl) (by kernel_rfl) (fun _ _ _ h => h) (Or.inl ⟨by rfl, ?_⟩) hH ?_
  rotate_left
  · (intro w hSw; (try dsimp only at hSw); go_simp; (try with_reducible rfl))
  try simp only [Act.put, List.setIfInBounds_toArray, List.set_cons_zero, List.set_cons_succ]
  refine wpAnyH_take (i := 19) (oi := { dst := some 51, op := Op.pick (Operand.tmp 46) (Operand.tmp 50) (Operand.const (Value.bool false)), type := _, pos := _, after := _, guard := some (5, false) }) (v := ?_) rfl (by kernel_rfl) (by kernel_rfl) (by kernel_rfl) (fun _ _ _ h => h) (Or.inl ⟨by rfl, ?_⟩) hH ?_
  rotate_left
  · (intro w hSw; (try dsimp only at hSw); go_simp; (try with_reducible rfl))
  try simp only [Act.put, List.setIfInBounds_toArray, List.set_cons_zero, List.set_cons_succ]
  refine wpAnyH_take (i := 20) (oi := { dst := some 52, op := Op.pick (Operand.tmp 37) (Operand.const (Value.bool true)) (Operand.tmp 51), type := _, pos := _, after := _, guard := none }) (v := ?_) rfl (by kernel_rfl) (by kernel_rfl) (by kernel_rfl) (fun _ _ _ h => h) (Or.inl ⟨by rfl, ?_⟩) hH ?_
  rotate_left
  · (intro w hSw; (try dsimp only at hSw); go_simp; (try with_reducible rfl))
  try simp only [Act.put, List.setIfInBounds_toArray, List.set_cons_zero, List.set_cons_succ]
  refine wpAnyH_take (i := 21) (oi := { dst := some 53, op := Op.move (Operand.tmp 52), type := _, pos := _, after := _, guard := none }) (v := ?_) rfl (by kernel_rfl) (by kernel_rfl) (by kernel_rfl) (fun _ _ _ h => h) (Or.inl ⟨by rfl, ?_⟩) hH ?_
  rotate_left
  · (intro w hSw; (try dsimp only at hSw); go_simp; (try with_reducible rfl))
  try simp only [Act.put, List.setIfInBounds_toArray, List.set_cons_zero, List.set_cons_succ]
  refine wpAnyH_take (i := 22) (oi := { dst := some 54, op := Op.load 31 (Operand.tmp 7), type := _, pos := _, after := _, guard := some (21, false) }) (v := ?_) rfl (by kernel_rfl) (by kernel_rfl) (by kernel_rfl) (fun _ _ _ h => h) (Or.inl ⟨by rfl, ?_⟩) hH ?_
  rotate_left
  · (intro w hSw; (try dsimp only at hSw); go_simp; (try with_reducible rfl))
  try simp only [Act.put, List.setIfInBounds_toArray, List.set_cons_zero, List.set_cons_succ]
  refine wpAnyH_take (i := 23) (oi := { dst := some 55, op := Op.load 31 (Operand.tmp 8), type := _, pos := _, after := _, guard := some (21, false) }) (v := ?_) rfl (by kernel_rfl) (by kernel_rfl) (by kernel_rfl) (fun _ _ _ h => h) (Or.inl ⟨by rfl, ?_⟩) hH ?_
  rotate_left
  · (intro w hSw; (try dsimp only at hSw); go_simp; (try with_reducible rfl))
  try simp only [Act.put, List.setIfInBounds_toArray, List.set_cons_zero, List.set_cons_succ]
  refine wpAnyH_take (i := 25) (oi := { dst := some 57, op := Op.load 31 (Operand.tmp 9), type := _, pos := _, after := _, guard := some (21, false) }) (v := ?_) rfl (by kernel_rfl) (by kernel_rfl) (by kernel_rfl) (fun _ _ _ h => h) (Or.inl ⟨by rfl, ?_⟩) hH ?_
  rotate_left
  · (intro w hSw; (try dsimp only at hSw); go_simp; (try with_reducible rfl))
  try simp only [Act.put, List.setIfInBounds_toArray, List.set_cons_zero, List.set_cons_succ]
  refine wpAnyH_ready (rs := [24]) (by kernel_rfl) (by simp) ?_
  refine AllReadyH.cons (o := { dst := some 56, op := Op.call { callee := Callee.value (Operand.func 15), args := #[Operand.tmp 54, Operand.tmp 55], argTypes := #[31, 31] }, type := _, pos := _, after := _, guard := some (21, false) }) rfl (fun K hK => ?_) AllReadyH.nil
  go_simp
  (with_reducible refine (O1.out _).mono ?_); rintro e v8_24 ⟨rfl, g⟩
  refine hK.out _ _ (by (try dsimp only); (go_split_ands; exact ⟨kept_cell g (by assumption), kept_cell g (by assumption), kept_cell g (by assumption), kept_cell g (by assumption), kept_cell g (by assumption), kept_cell g (by assumption), kept_cell g (by assumption), kept_cell g (by assumption), kept_cell g (by assumption), kept_cell g (by assumption), kept_cell g (by assumption), kept_cell g (by assumption), kept_cell g (by assumption), kept_cell g (by assumption), kept_cell g (by assumption), kept_cell g (by assumption), kept_cell g (by assumption), kept_cell g (by assumption), kept_cell g (by assumption), kept_cell g (by assumption), kept_cell g (by assumption), kept_cell g (by assumption), kept_cell g (by assumption), kept_cell g (by assumption), kept_cell g (by assumption), kept_cell g (by assumption), grown_trans (by assumption) g⟩)) (fun hH2 => ?_)
  clear hK K hH; have hH := hH2; clear hH2
  try simp only [Act.put, List.setIfInBounds_toArray, List.set_cons_zero, List.set_cons_succ]
  refine wpAnyH_ready (rs := [26]) (by kernel_rfl) (by simp) ?_
  refine AllReadyH.cons (o := { dst := some 58, op := Op.call { callee := Callee.value (Operand.func 13), args := #[Operand.tmp 57], argTypes := #[31] }, type := _, pos := _, after := _, guard := some (21, false) }) rfl (fun K hK => ?_) AllReadyH.nil
  go_simp
  (with_reducible refine (E1.out _).mono ?_); rintro e v8_26 ⟨rfl, g⟩
  refine hK.out _ _ (by (try dsimp only); (go_split_ands; exact ⟨kept_cell g (by assumption), kept_cell g (by assumption), kept_cell g (by assumption), kept_cell g (by assumption), kept_cell g (by assumption), kept_cell g (by assumption), kept_cell g (by assumption), kept_cell g (by assumption), kept_cell g (by assumption), kept_cell g (by assumption), kept_cell g (by assumption), kept_cell g (by assumption), kept_cell g (by assumption), kept_cell g (by assumption), kept_cell g (by assumption), kept_cell g (by assumption), kept_cell g (by assumption), kept_cell g (by assumption), kept_cell g (by assumption), kept_cell g (by assumption), kept_cell g (by assumption), kept_cell g (by assumption), kept_cell g (by assumption), kept_cell g (by assumption), kept_cell g (by assumption), kept_cell g (by assumption), grown_trans (by assumption) g⟩)) (fun hH2 => ?_)
  clear hK K hH; have hH := hH2; clear hH2
  try simp only [Act.put, List.setIfInBounds_toArray, List.set_cons_zero, List.set_cons_succ]
  refine wpAnyH_take (i := 27) (oi := { dst := some 59, op := Op.binOp BinOp.eql 4 (Operand.tmp 56) (Operand.tmp 58) 4, type := _, pos := _, after := _, guard := some (21, false) }) (v := ?_) rfl (by kernel_rfl) (by kernel_rfl) (by kernel_rfl) (fun _ _ _ h => h) (Or.inl ⟨by rfl, ?_⟩) hH ?_
  rotate_left
  · (intro w hSw; (try dsimp only at hSw); go_simp; (try with_reducible rfl))
  try simp only [Act.put, List.setIfInBounds_toArray, List.set_cons_zero, List.set_cons_succ]
  refine wpAnyH_take (i := 28) (oi := { dst := some 60, op := Op.pick (Operand.tmp 53) (Operand.const (Value.bool true)) (Operand.tmp 59), type := _, pos := _, after := _, guard := none }) (v := ?_) rfl (by kernel_rfl) (by kernel_rfl) (by kernel_rfl) (fun _ _ _ h => h) (Or.inl ⟨by rfl, ?_⟩) hH ?_
  rotate_left
  · (intro w hSw; (try dsimp only at hSw); go_simp; (try with_reducible rfl))
  try simp only [Act.put, List.setIfInBounds_toArray, List.set_cons_zero, List.set_cons_succ]
  refine wpAnyH_done (by kernel_rfl) ?_ _
  refine NoPanic.normal ?_
  clear p0 p1 p2 p3 q0 q1 q2 q3 n0 n1 r0 r1 r2 r3 s0 s1 s2 s3 k0 k1 k2 k3 l0 l1 l2 l3 gg
  obtain ⟨p0, p1, p2, p3, q0, q1, q2, q3, n0, n1, r0, r1, r2, r3, s0, s1, s2, s3, k0, k1, k2, k3, l0, l1, l2, l3, gg⟩ := hH
  go_wp2_with (first
    | ((with_reducible refine (E1.out _).mono ?_); rintro e w8 ⟨rfl, g8⟩
       replace p0 := kept_cell g8 (b := w.heap.size) (o := 0) (v := .int .i32 xa) p0
       replace p1 := kept_cell g8 (b := w.heap.size) (o := 1) (v := .int .i32 ya) p1
       replace p2 := kept_cell g8 (b := w.heap.size) (o := 2) (v := .int .i32 za) p2
       replace p3 := kept_cell g8 (b := w.heap.size) (o := 3) (v := .int .i32 ta) p3
       replace q0 := kept_cell g8 (b := w.heap.size + 1) (o := 0) (v := .int .i32 xb) q0
       replace q1 := kept_cell g8 (b := w.heap.size + 1) (o := 1) (v := .int .i32 yb) q1
       replace q2 := kept_cell g8 (b := w.heap.size + 1) (o := 2) (v := .int .i32 zb) q2
       replace q3 := kept_cell g8 (b := w.heap.size + 1) (o := 3) (v := .int .i32 tb) q3
       replace n0 := kept_cell g8 (b := w.heap.size + 1 + 1) (o := 0) (v := .int .i32 x) n0
       replace n1 := kept_cell g8 (b := w.heap.size + 1 + 1) (o := 1) (v := .int .i32 y) n1
       replace r0 := kept_cell g8 (b := w2.heap.size) (o := 0) (v := .int .i32 xa) r0
       replace r1 := kept_cell g8 (b := w2.heap.size) (o := 1) (v := .int .i32 ya) r1
       replace r2 := kept_cell g8 (b := w2.heap.size) (o := 2) (v := .int .i32 za) r2
       replace r3 := kept_cell g8 (b := w2.heap.size) (o := 3) (v := .int .i32 ta) r3
       replace s0 := kept_cell g8 (b := w3.heap.size) (o := 0) (v := .int .i32 xb) s0
       replace s1 := kept_cell g8 (b := w3.heap.size) (o := 1) (v := .int .i32 yb) s1
       replace s2 := kept_cell g8 (b := w3.heap.size) (o := 2) (v := .int .i32 zb) s2
       replace s3 := kept_cell g8 (b := w3.heap.size) (o := 3) (v := .int .i32 tb) s3
       replace k0 := kept_cell g8 (b := w4.heap.size) (o := 0) (v := .int .i32 1) k0
       replace k1 := kept_cell g8 (b := w4.heap.size) (o := 1) (v := .int .i32 0) k1
       replace k2 := kept_cell g8 (b := w4.heap.size) (o := 2) (v := .int .i32 0) k2
       replace k3 := kept_cell g8 (b := w4.heap.size) (o := 3) (v := .int .i32 0) k3
       replace l0 := kept_cell g8 (b := w5.heap.size) (o := 0) (v := .int .i32 u0) l0
       replace l1 := kept_cell g8 (b := w5.heap.size) (o := 1) (v := .int .i32 u1) l1
       replace l2 := kept_cell g8 (b := w5.heap.size) (o := 2) (v := .int .i32 u2) l2
       replace l3 := kept_cell g8 (b := w5.heap.size) (o := 3) (v := .int .i32 u3) l3
       replace gg := grown_trans gg g8
       have zp_w8 : w.heap.size < w8.heap.size := World.block_lt_of_cell? _ _ p0
       have zq_w8 : w.heap.size + 1 < w8.heap.size := World.block_lt_of_cell? _ _ q0
       have zn_w8 : w.heap.size + 1 + 1 < w8.heap.size := World.block_lt_of_cell? _ _ n0
       have zr_w8 : w2.heap.size < w8.heap.size := World.block_lt_of_cell? _ _ r0
       have zs_w8 : w3.heap.size < w8.heap.size := World.block_lt_of_cell? _ _ s0
       have zk_w8 : w4.heap.size < w8.heap.size := World.block_lt_of_cell? _ _ k0
       have zl_w8 : w5.heap.size < w8.heap.size := World.block_lt_of_cell? _ _ l0)
    | ((with_reducible refine (RA.out _).mono ?_); rintro e w9 ⟨rfl, g9⟩
       replace p0 := kept_cell g9 (b := w.heap.size) (o := 0) (v := .int .i32 xa) p0
       replace p1 := kept_cell g9 (b := w.heap.size) (o := 1) (v := .int .i32 ya) p1
       replace p2 := kept_cell g9 (b := w.heap.size) (o := 2) (v := .int .i32 za) p2
       replace p3 := kept_cell g9 (b := w.heap.size) (o := 3) (v := .int .i32 ta) p3
       replace q0 := kept_cell g9 (b := w.heap.size + 1) (o := 0) (v := .int .i32 xb) q0
       replace q1 := kept_cell g9 (b := w.heap.size + 1) (o := 1) (v := .int .i32 yb) q1
       replace q2 := kept_cell g9 (b := w.heap.size + 1) (o := 2) (v := .int .i32 zb) q2
       replace q3 := kept_cell g9 (b := w.heap.size + 1) (o := 3) (v := .int .i32 tb) q3
       replace n0 := kept_cell g9 (b := w.heap.size + 1 + 1) (o := 0) (v := .int .i32 x) n0
       replace n1 := kept_cell g9 (b := w.heap.size + 1 + 1) (o := 1) (v := .int .i32 y) n1
       replace r0 := kept_cell g9 (b := w2.heap.size) (o := 0) (v := .int .i32 xa) r0
       replace r1 := kept_cell g9 (b := w2.heap.size) (o := 1) (v := .int .i32 ya) r1
       replace r2 := kept_cell g9 (b := w2.heap.size) (o := 2) (v := .int .i32 za) r2
       replace r3 := kept_cell g9 (b := w2.heap.size) (o := 3) (v := .int .i32 ta) r3
       replace s0 := kept_cell g9 (b := w3.heap.size) (o := 0) (v := .int .i32 xb) s0
       replace s1 := kept_cell g9 (b := w3.heap.size) (o := 1) (v := .int .i32 yb) s1
       replace s2 := kept_cell g9 (b := w3.heap.size) (o := 2) (v := .int .i32 zb) s2
       replace s3 := kept_cell g9 (b := w3.heap.size) (o := 3) (v := .int .i32 tb) s3
       replace k0 := kept_cell g9 (b := w4.heap.size) (o := 0) (v := .int .i32 1) k0
       replace k1 := kept_cell g9 (b := w4.heap.size) (o := 1) (v := .int .i32 0) k1
       replace k2 := kept_cell g9 (b := w4.heap.size) (o := 2) (v := .int .i32 0) k2
       replace k3 := kept_cell g9 (b := w4.heap.size) (o := 3) (v := .int .i32 0) k3
       replace l0 := kept_cell g9 (b := w5.heap.size) (o := 0) (v := .int .i32 u0) l0
       replace l1 := kept_cell g9 (b := w5.heap.size) (o := 1) (v := .int .i32 u1) l1
       replace l2 := kept_cell g9 (b := w5.heap.size) (o := 2) (v := .int .i32 u2) l2
       replace l3 := kept_cell g9 (b := w5.heap.size) (o := 3) (v := .int .i32 u3) l3
       replace gg := grown_trans gg g9
       have zp_w9 : w.heap.size < w9.heap.size := World.block_lt_of_cell? _ _ p0
       have zq_w9 : w.heap.size + 1 < w9.heap.size := World.block_lt_of_cell? _ _ q0
       have zn_w9 : w.heap.size + 1 + 1 < w9.heap.size := World.block_lt_of_cell? _ _ n0
       have zr_w9 : w2.heap.size < w9.heap.size := World.block_lt_of_cell? _ _ r0
       have zs_w9 : w3.heap.size < w9.heap.size := World.block_lt_of_cell? _ _ s0
       have zk_w9 : w4.heap.size < w9.heap.size := World.block_lt_of_cell? _ _ k0
       have zl_w9 : w5.heap.size < w9.heap.size := World.block_lt_of_cell? _ _ l0)
    | ((with_reducible refine (RB.out _).mono ?_); rintro e w10 ⟨rfl, g10⟩
       replace p0 := kept_cell g10 (b := w.heap.size) (o := 0) (v := .int .i32 xa) p0
       replace p1 := kept_cell g10 (b := w.heap.size) (o := 1) (v := .int .i32 ya) p1
       replace p2 := kept_cell g10 (b := w.heap.size) (o := 2) (v := .int .i32 za) p2
       replace p3 := kept_cell g10 (b := w.heap.size) (o := 3) (v := .int .i32 ta) p3
       replace q0 := kept_cell g10 (b := w.heap.size + 1) (o := 0) (v := .int .i32 xb) q0
       replace q1 := kept_cell g10 (b := w.heap.size + 1) (o := 1) (v := .int .i32 yb) q1
       replace q2 := kept_cell g10 (b := w.heap.size + 1) (o := 2) (v := .int .i32 zb) q2
       replace q3 := kept_cell g10 (b := w.heap.size + 1) (o := 3) (v := .int .i32 tb) q3
       replace n0 := kept_cell g10 (b := w.heap.size + 1 + 1) (o := 0) (v := .int .i32 x) n0
       replace n1 := kept_cell g10 (b := w.heap.size + 1 + 1) (o := 1) (v := .int .i32 y) n1
       replace r0 := kept_cell g10 (b := w2.heap.size) (o := 0) (v := .int .i32 xa) r0
       replace r1 := kept_cell g10 (b := w2.heap.size) (o := 1) (v := .int .i32 ya) r1
       replace r2 := kept_cell g10 (b := w2.heap.size) (o := 2) (v := .int .i32 za) r2
       replace r3 := kept_cell g10 (b := w2.heap.size) (o := 3) (v := .int .i32 ta) r3
       replace s0 := kept_cell g10 (b := w3.heap.size) (o := 0) (v := .int .i32 xb) s0
       replace s1 := kept_cell g10 (b := w3.heap.size) (o := 1) (v := .int .i32 yb) s1
       replace s2 := kept_cell g10 (b := w3.heap.size) (o := 2) (v := .int .i32 zb) s2
       replace s3 := kept_cell g10 (b := w3.heap.size) (o := 3) (v := .int .i32 tb) s3
       replace k0 := kept_cell g10 (b := w4.heap.size) (o := 0) (v := .int .i32 1) k0
       replace k1 := kept_cell g10 (b := w4.heap.size) (o := 1) (v := .int .i32 0) k1
       replace k2 := kept_cell g10 (b := w4.heap.size) (o := 2) (v := .int .i32 0) k2
       replace k3 := kept_cell g10 (b := w4.heap.size) (o := 3) (v := .int .i32 0) k3
       replace l0 := kept_cell g10 (b := w5.heap.size) (o := 0) (v := .int .i32 u0) l0
       replace l1 := kept_cell g10 (b := w5.heap.size) (o := 1) (v := .int .i32 u1) l1
       replace l2 := kept_cell g10 (b := w5.heap.size) (o := 2) (v := .int .i32 u2) l2
       replace l3 := kept_cell g10 (b := w5.heap.size) (o := 3) (v := .int .i32 u3) l3
       replace gg := grown_trans gg g10
       have zp_w10 : w.heap.size < w10.heap.size := World.block_lt_of_cell? _ _ p0
       have zq_w10 : w.heap.size + 1 < w10.heap.size := World.block_lt_of_cell? _ _ q0
       have zn_w10 : w.heap.size + 1 + 1 < w10.heap.size := World.block_lt_of_cell? _ _ n0
       have zr_w10 : w2.heap.size < w10.heap.size := World.block_lt_of_cell? _ _ r0
       have zs_w10 : w3.heap.size < w10.heap.size := World.block_lt_of_cell? _ _ s0
       have zk_w10 : w4.heap.size < w10.heap.size := World.block_lt_of_cell? _ _ k0
       have zl_w10 : w5.heap.size < w10.heap.size := World.block_lt_of_cell? _ _ l0))
  go_ret
  exact ⟨rfl, gg⟩
set_option maxRecDepth 100000 in
set_option maxHeartbeats 8000000 in
theorem btl_00000 (xa ya za ta xb yb zb tb x y m0 m1 m2 m3 u0 u1 u2 u3 : Int) (iu : Bool) (AW : Hid BAwake) (M1 : Hid (BMe xa ya za ta xb yb zb tb m0 m1 m2 m3)) (U1 : Hid (BUn xa ya za ta xb yb zb tb u0 u1 u2 u3)) (K1 : Hid (BCo xa ya za ta x y false)) (K2 : Hid (BCo xb yb zb tb x y false)) (C3 : Hid (BCo m0 m1 m2 m3 x y false)) (_C4 : Hid (BCo u0 u1 u2 u3 x y iu)) (O1 : Hid (BOv xa ya za ta xb yb zb tb true)) (E1 : Hid (BEm m0 m1 m2 m3 false)) (RA : Hid (REm xa ya za ta false)) (RB : Hid (REm xb yb zb tb false)) (t0 : min xa xb = u0) (t1 : min ya yb = u1) (t2 : max za zb = u2) (t3 : max ta tb = u3) (w : World) :
    Calls Try.prog 5 #[.agg #[.int .i32 xa, .int .i32 ya, .int .i32 za, .int .i32 ta], .agg #[.int .i32 xb, .int .i32 yb, .int .i32 zb, .int .i32 tb], .agg #[.int .i32 x, .int .i32 y]] w fun e w' => e = .returned (.bool true) ∧ Grown w w' := by
  have F1 := Lib.hid (fwd xa ya za ta)
  have F2 := Lib.hid (fwd xb yb zb tb)
  have y0 : (u0 == u0) = true := by simp
  have y1 : (u1 == u1) = true := by simp
  have y2 : (u2 == u2) = true := by simp
  have y3 : (u3 == u3) = true := by simp
  go_enter Try.func5, Try.ntmps5
  go_wp2_with (first
    | ((with_reducible refine (AW.out _).mono ?_); rintro e w1 ⟨rfl, g1⟩
       have p0 := kept_cell g1 (b := w.heap.size) (o := 0) (v := .int .i32 xa) (by (repeat (first | rw [World.cell?_drew] | rw [World.cell?_alloc_past _ _ _ (by first | (simp; done) | (simp; omega))])); rw [World.cell?_alloc_at _ _ _ _ (by simp)]; rfl)
       have p1 := kept_cell g1 (b := w.heap.size) (o := 1) (v := .int .i32 ya) (by (repeat (first | rw [World.cell?_drew] | rw [World.cell?_alloc_past _ _ _ (by first | (simp; done) | (simp; omega))])); rw [World.cell?_alloc_at _ _ _ _ (by simp)]; rfl)
       have p2 := kept_cell g1 (b := w.heap.size) (o := 2) (v := .int .i32 za) (by (repeat (first | rw [World.cell?_drew] | rw [World.cell?_alloc_past _ _ _ (by first | (simp; done) | (simp; omega))])); rw [World.cell?_alloc_at _ _ _ _ (by simp)]; rfl)
       have p3 := kept_cell g1 (b := w.heap.size) (o := 3) (v := .int .i32 ta) (by (repeat (first | rw [World.cell?_drew] | rw [World.cell?_alloc_past _ _ _ (by first | (simp; done) | (simp; omega))])); rw [World.cell?_alloc_at _ _ _ _ (by simp)]; rfl)
       have q0 := kept_cell g1 (b := w.heap.size + 1) (o := 0) (v := .int .i32 xb) (by (repeat (first | rw [World.cell?_drew] | rw [World.cell?_alloc_past _ _ _ (by first | (simp; done) | (simp; omega))])); rw [World.cell?_alloc_at _ _ _ _ (by simp)]; rfl)
       have q1 := kept_cell g1 (b := w.heap.size + 1) (o := 1) (v := .int .i32 yb) (by (repeat (first | rw [World.cell?_drew] | rw [World.cell?_alloc_past _ _ _ (by first | (simp; done) | (simp; omega))])); rw [World.cell?_alloc_at _ _ _ _ (by simp)]; rfl)
       have q2 := kept_cell g1 (b := w.heap.size + 1) (o := 2) (v := .int .i32 zb) (by (repeat (first | rw [World.cell?_drew] | rw [World.cell?_alloc_past _ _ _ (by first | (simp; done) | (simp; omega))])); rw [World.cell?_alloc_at _ _ _ _ (by simp)]; rfl)
       have q3 := kept_cell g1 (b := w.heap.size + 1) (o := 3) (v := .int .i32 tb) (by (repeat (first | rw [World.cell?_drew] | rw [World.cell?_alloc_past _ _ _ (by first | (simp; done) | (simp; omega))])); rw [World.cell?_alloc_at _ _ _ _ (by simp)]; rfl)
       have n0 := kept_cell g1 (b := w.heap.size + 1 + 1) (o := 0) (v := .int .i32 x) (by (repeat (first | rw [World.cell?_drew] | rw [World.cell?_alloc_past _ _ _ (by first | (simp; done) | (simp; omega))])); rw [World.cell?_alloc_at _ _ _ _ (by simp)]; rfl)
       have n1 := kept_cell g1 (b := w.heap.size + 1 + 1) (o := 1) (v := .int .i32 y) (by (repeat (first | rw [World.cell?_drew] | rw [World.cell?_alloc_past _ _ _ (by first | (simp; done) | (simp; omega))])); rw [World.cell?_alloc_at _ _ _ _ (by simp)]; rfl)
       have gg := grown_trans ((((Grown.refl _).alloc _ _).alloc _ _).alloc _ _) g1
       have zp_w1 : w.heap.size < w1.heap.size := World.block_lt_of_cell? _ _ p0
       have zq_w1 : w.heap.size + 1 < w1.heap.size := World.block_lt_of_cell? _ _ q0
       have zn_w1 : w.heap.size + 1 + 1 < w1.heap.size := World.block_lt_of_cell? _ _ n0)
    | ((with_reducible refine (F1.out _).mono ?_); rintro e w2 ⟨rfl, g2⟩
       replace p0 := kept_cell g2 (b := w.heap.size) (o := 0) (v := .int .i32 xa) p0
       replace p1 := kept_cell g2 (b := w.heap.size) (o := 1) (v := .int .i32 ya) p1
       replace p2 := kept_cell g2 (b := w.heap.size) (o := 2) (v := .int .i32 za) p2
       replace p3 := kept_cell g2 (b := w.heap.size) (o := 3) (v := .int .i32 ta) p3
       replace q0 := kept_cell g2 (b := w.heap.size + 1) (o := 0) (v := .int .i32 xb) q0
       replace q1 := kept_cell g2 (b := w.heap.size + 1) (o := 1) (v := .int .i32 yb) q1
       replace q2 := kept_cell g2 (b := w.heap.size + 1) (o := 2) (v := .int .i32 zb) q2
       replace q3 := kept_cell g2 (b := w.heap.size + 1) (o := 3) (v := .int .i32 tb) q3
       replace n0 := kept_cell g2 (b := w.heap.size + 1 + 1) (o := 0) (v := .int .i32 x) n0
       replace n1 := kept_cell g2 (b := w.heap.size + 1 + 1) (o := 1) (v := .int .i32 y) n1
       replace gg := grown_trans gg g2
       have zp_w2 : w.heap.size < w2.heap.size := World.block_lt_of_cell? _ _ p0
       have zq_w2 : w.heap.size + 1 < w2.heap.size := World.block_lt_of_cell? _ _ q0
       have zn_w2 : w.heap.size + 1 + 1 < w2.heap.size := World.block_lt_of_cell? _ _ n0)
    | ((with_reducible refine (F2.out _).mono ?_); rintro e w3 ⟨rfl, g3⟩
       replace p0 := kept_cell g3 (b := w.heap.size) (o := 0) (v := .int .i32 xa) (alloc_one p0)
       replace p1 := kept_cell g3 (b := w.heap.size) (o := 1) (v := .int .i32 ya) (alloc_one p1)
       replace p2 := kept_cell g3 (b := w.heap.size) (o := 2) (v := .int .i32 za) (alloc_one p2)
       replace p3 := kept_cell g3 (b := w.heap.size) (o := 3) (v := .int .i32 ta) (alloc_one p3)
       replace q0 := kept_cell g3 (b := w.heap.size + 1) (o := 0) (v := .int .i32 xb) (alloc_one q0)
       replace q1 := kept_cell g3 (b := w.heap.size + 1) (o := 1) (v := .int .i32 yb) (alloc_one q1)
       replace q2 := kept_cell g3 (b := w.heap.size + 1) (o := 2) (v := .int .i32 zb) (alloc_one q2)
       replace q3 := kept_cell g3 (b := w.heap.size + 1) (o := 3) (v := .int .i32 tb) (alloc_one q3)
       replace n0 := kept_cell g3 (b := w.heap.size + 1 + 1) (o := 0) (v := .int .i32 x) (alloc_one n0)
       replace n1 := kept_cell g3 (b := w.heap.size + 1 + 1) (o := 1) (v := .int .i32 y) (alloc_one n1)
       have r0 := kept_cell g3 (b := w2.heap.size) (o := 0) (v := .int .i32 xa) (by (repeat (first | rw [World.cell?_drew] | rw [World.cell?_alloc_past _ _ _ (by first | (simp; done) | (simp; omega))])); rw [World.cell?_alloc_at _ _ _ _ (by simp)]; rfl)
       have r1 := kept_cell g3 (b := w2.heap.size) (o := 1) (v := .int .i32 ya) (by (repeat (first | rw [World.cell?_drew] | rw [World.cell?_alloc_past _ _ _ (by first | (simp; done) | (simp; omega))])); rw [World.cell?_alloc_at _ _ _ _ (by simp)]; rfl)
       have r2 := kept_cell g3 (b := w2.heap.size) (o := 2) (v := .int .i32 za) (by (repeat (first | rw [World.cell?_drew] | rw [World.cell?_alloc_past _ _ _ (by first | (simp; done) | (simp; omega))])); rw [World.cell?_alloc_at _ _ _ _ (by simp)]; rfl)
       have r3 := kept_cell g3 (b := w2.heap.size) (o := 3) (v := .int .i32 ta) (by (repeat (first | rw [World.cell?_drew] | rw [World.cell?_alloc_past _ _ _ (by first | (simp; done) | (simp; omega))])); rw [World.cell?_alloc_at _ _ _ _ (by simp)]; rfl)
       replace gg := grown_trans (gg.alloc _ _) g3
       have zp_w3 : w.heap.size < w3.heap.size := World.block_lt_of_cell? _ _ p0
       have zq_w3 : w.heap.size + 1 < w3.heap.size := World.block_lt_of_cell? _ _ q0
       have zn_w3 : w.heap.size + 1 + 1 < w3.heap.size := World.block_lt_of_cell? _ _ n0
       have zr_w3 : w2.heap.size < w3.heap.size := World.block_lt_of_cell? _ _ r0)
    | ((with_reducible refine (M1.out _).mono ?_); rintro e w4 ⟨rfl, g4⟩
       replace p0 := kept_cell g4 (b := w.heap.size) (o := 0) (v := .int .i32 xa) (alloc_one p0)
       replace p1 := kept_cell g4 (b := w.heap.size) (o := 1) (v := .int .i32 ya) (alloc_one p1)
       replace p2 := kept_cell g4 (b := w.heap.size) (o := 2) (v := .int .i32 za) (alloc_one p2)
       replace p3 := kept_cell g4 (b := w.heap.size) (o := 3) (v := .int .i32 ta) (alloc_one p3)
       replace q0 := kept_cell g4 (b := w.heap.size + 1) (o := 0) (v := .int .i32 xb) (alloc_one q0)
       replace q1 := kept_cell g4 (b := w.heap.size + 1) (o := 1) (v := .int .i32 yb) (alloc_one q1)
       replace q2 := kept_cell g4 (b := w.heap.size + 1) (o := 2) (v := .int .i32 zb) (alloc_one q2)
       replace q3 := kept_cell g4 (b := w.heap.size + 1) (o := 3) (v := .int .i32 tb) (alloc_one q3)
       replace n0 := kept_cell g4 (b := w.heap.size + 1 + 1) (o := 0) (v := .int .i32 x) (alloc_one n0)
       replace n1 := kept_cell g4 (b := w.heap.size + 1 + 1) (o := 1) (v := .int .i32 y) (alloc_one n1)
       replace r0 := kept_cell g4 (b := w2.heap.size) (o := 0) (v := .int .i32 xa) (alloc_one r0)
       replace r1 := kept_cell g4 (b := w2.heap.size) (o := 1) (v := .int .i32 ya) (alloc_one r1)
       replace r2 := kept_cell g4 (b := w2.heap.size) (o := 2) (v := .int .i32 za) (alloc_one r2)
       replace r3 := kept_cell g4 (b := w2.heap.size) (o := 3) (v := .int .i32 ta) (alloc_one r3)
       have s0 := kept_cell g4 (b := w3.heap.size) (o := 0) (v := .int .i32 xb) (by (repeat (first | rw [World.cell?_drew] | rw [World.cell?_alloc_past _ _ _ (by first | (simp; done) | (simp; omega))])); rw [World.cell?_alloc_at _ _ _ _ (by simp)]; rfl)
       have s1 := kept_cell g4 (b := w3.heap.size) (o := 1) (v := .int .i32 yb) (by (repeat (first | rw [World.cell?_drew] | rw [World.cell?_alloc_past _ _ _ (by first | (simp; done) | (simp; omega))])); rw [World.cell?_alloc_at _ _ _ _ (by simp)]; rfl)
       have s2 := kept_cell g4 (b := w3.heap.size) (o := 2) (v := .int .i32 zb) (by (repeat (first | rw [World.cell?_drew] | rw [World.cell?_alloc_past _ _ _ (by first | (simp; done) | (simp; omega))])); rw [World.cell?_alloc_at _ _ _ _ (by simp)]; rfl)
       have s3 := kept_cell g4 (b := w3.heap.size) (o := 3) (v := .int .i32 tb) (by (repeat (first | rw [World.cell?_drew] | rw [World.cell?_alloc_past _ _ _ (by first | (simp; done) | (simp; omega))])); rw [World.cell?_alloc_at _ _ _ _ (by simp)]; rfl)
       replace gg := grown_trans (gg.alloc _ _) g4
       have zp_w4 : w.heap.size < w4.heap.size := World.block_lt_of_cell? _ _ p0
       have zq_w4 : w.heap.size + 1 < w4.heap.size := World.block_lt_of_cell? _ _ q0
       have zn_w4 : w.heap.size + 1 + 1 < w4.heap.size := World.block_lt_of_cell? _ _ n0
       have zr_w4 : w2.heap.size < w4.heap.size := World.block_lt_of_cell? _ _ r0
       have zs_w4 : w3.heap.size < w4.heap.size := World.block_lt_of_cell? _ _ s0)
    | ((with_reducible refine (U1.out _).mono ?_); rintro e w5 ⟨rfl, g5⟩
       replace p0 := kept_cell g5 (b := w.heap.size) (o := 0) (v := .int .i32 xa) (alloc_one p0)
       replace p1 := kept_cell g5 (b := w.heap.size) (o := 1) (v := .int .i32 ya) (alloc_one p1)
       replace p2 := kept_cell g5 (b := w.heap.size) (o := 2) (v := .int .i32 za) (alloc_one p2)
       replace p3 := kept_cell g5 (b := w.heap.size) (o := 3) (v := .int .i32 ta) (alloc_one p3)
       replace q0 := kept_cell g5 (b := w.heap.size + 1) (o := 0) (v := .int .i32 xb) (alloc_one q0)
       replace q1 := kept_cell g5 (b := w.heap.size + 1) (o := 1) (v := .int .i32 yb) (alloc_one q1)
       replace q2 := kept_cell g5 (b := w.heap.size + 1) (o := 2) (v := .int .i32 zb) (alloc_one q2)
       replace q3 := kept_cell g5 (b := w.heap.size + 1) (o := 3) (v := .int .i32 tb) (alloc_one q3)
       replace n0 := kept_cell g5 (b := w.heap.size + 1 + 1) (o := 0) (v := .int .i32 x) (alloc_one n0)
       replace n1 := kept_cell g5 (b := w.heap.size + 1 + 1) (o := 1) (v := .int .i32 y) (alloc_one n1)
       replace r0 := kept_cell g5 (b := w2.heap.size) (o := 0) (v := .int .i32 xa) (alloc_one r0)
       replace r1 := kept_cell g5 (b := w2.heap.size) (o := 1) (v := .int .i32 ya) (alloc_one r1)
       replace r2 := kept_cell g5 (b := w2.heap.size) (o := 2) (v := .int .i32 za) (alloc_one r2)
       replace r3 := kept_cell g5 (b := w2.heap.size) (o := 3) (v := .int .i32 ta) (alloc_one r3)
       replace s0 := kept_cell g5 (b := w3.heap.size) (o := 0) (v := .int .i32 xb) (alloc_one s0)
       replace s1 := kept_cell g5 (b := w3.heap.size) (o := 1) (v := .int .i32 yb) (alloc_one s1)
       replace s2 := kept_cell g5 (b := w3.heap.size) (o := 2) (v := .int .i32 zb) (alloc_one s2)
       replace s3 := kept_cell g5 (b := w3.heap.size) (o := 3) (v := .int .i32 tb) (alloc_one s3)
       have k0 := kept_cell g5 (b := w4.heap.size) (o := 0) (v := .int .i32 m0) (by (repeat (first | rw [World.cell?_drew] | rw [World.cell?_alloc_past _ _ _ (by first | (simp; done) | (simp; omega))])); rw [World.cell?_alloc_at _ _ _ _ (by simp)]; rfl)
       have k1 := kept_cell g5 (b := w4.heap.size) (o := 1) (v := .int .i32 m1) (by (repeat (first | rw [World.cell?_drew] | rw [World.cell?_alloc_past _ _ _ (by first | (simp; done) | (simp; omega))])); rw [World.cell?_alloc_at _ _ _ _ (by simp)]; rfl)
       have k2 := kept_cell g5 (b := w4.heap.size) (o := 2) (v := .int .i32 m2) (by (repeat (first | rw [World.cell?_drew] | rw [World.cell?_alloc_past _ _ _ (by first | (simp; done) | (simp; omega))])); rw [World.cell?_alloc_at _ _ _ _ (by simp)]; rfl)
       have k3 := kept_cell g5 (b := w4.heap.size) (o := 3) (v := .int .i32 m3) (by (repeat (first | rw [World.cell?_drew] | rw [World.cell?_alloc_past _ _ _ (by first | (simp; done) | (simp; omega))])); rw [World.cell?_alloc_at _ _ _ _ (by simp)]; rfl)
       replace gg := grown_trans (gg.alloc _ _) g5
       have zp_w5 : w.heap.size < w5.heap.size := World.block_lt_of_cell? _ _ p0
       have zq_w5 : w.heap.size + 1 < w5.heap.size := World.block_lt_of_cell? _ _ q0
       have zn_w5 : w.heap.size + 1 + 1 < w5.heap.size := World.block_lt_of_cell? _ _ n0
       have zr_w5 : w2.heap.size < w5.heap.size := World.block_lt_of_cell? _ _ r0
       have zs_w5 : w3.heap.size < w5.heap.size := World.block_lt_of_cell? _ _ s0
       have zk_w5 : w4.heap.size < w5.heap.size := World.block_lt_of_cell? _ _ k0)
    | ((with_reducible refine (K1.out _).mono ?_); rintro e w6 ⟨rfl, g6⟩
       replace p0 := kept_cell g6 (b := w.heap.size) (o := 0) (v := .int .i32 xa) (alloc_one p0)
       replace p1 := kept_cell g6 (b := w.heap.size) (o := 1) (v := .int .i32 ya) (alloc_one p1)
       replace p2 := kept_cell g6 (b := w.heap.size) (o := 2) (v := .int .i32 za) (alloc_one p2)
       replace p3 := kept_cell g6 (b := w.heap.size) (o := 3) (v := .int .i32 ta) (alloc_one p3)
       replace q0 := kept_cell g6 (b := w.heap.size + 1) (o := 0) (v := .int .i32 xb) (alloc_one q0)
       replace q1 := kept_cell g6 (b := w.heap.size + 1) (o := 1) (v := .int .i32 yb) (alloc_one q1)
       replace q2 := kept_cell g6 (b := w.heap.size + 1) (o := 2) (v := .int .i32 zb) (alloc_one q2)
       replace q3 := kept_cell g6 (b := w.heap.size + 1) (o := 3) (v := .int .i32 tb) (alloc_one q3)
       replace n0 := kept_cell g6 (b := w.heap.size + 1 + 1) (o := 0) (v := .int .i32 x) (alloc_one n0)
       replace n1 := kept_cell g6 (b := w.heap.size + 1 + 1) (o := 1) (v := .int .i32 y) (alloc_one n1)
       replace r0 := kept_cell g6 (b := w2.heap.size) (o := 0) (v := .int .i32 xa) (alloc_one r0)
       replace r1 := kept_cell g6 (b := w2.heap.size) (o := 1) (v := .int .i32 ya) (alloc_one r1)
       replace r2 := kept_cell g6 (b := w2.heap.size) (o := 2) (v := .int .i32 za) (alloc_one r2)
       replace r3 := kept_cell g6 (b := w2.heap.size) (o := 3) (v := .int .i32 ta) (alloc_one r3)
       replace s0 := kept_cell g6 (b := w3.heap.size) (o := 0) (v := .int .i32 xb) (alloc_one s0)
       replace s1 := kept_cell g6 (b := w3.heap.size) (o := 1) (v := .int .i32 yb) (alloc_one s1)
       replace s2 := kept_cell g6 (b := w3.heap.size) (o := 2) (v := .int .i32 zb) (alloc_one s2)
       replace s3 := kept_cell g6 (b := w3.heap.size) (o := 3) (v := .int .i32 tb) (alloc_one s3)
       replace k0 := kept_cell g6 (b := w4.heap.size) (o := 0) (v := .int .i32 m0) (alloc_one k0)
       replace k1 := kept_cell g6 (b := w4.heap.size) (o := 1) (v := .int .i32 m1) (alloc_one k1)
       replace k2 := kept_cell g6 (b := w4.heap.size) (o := 2) (v := .int .i32 m2) (alloc_one k2)
       replace k3 := kept_cell g6 (b := w4.heap.size) (o := 3) (v := .int .i32 m3) (alloc_one k3)
       have l0 := kept_cell g6 (b := w5.heap.size) (o := 0) (v := .int .i32 u0) (by (repeat (first | rw [World.cell?_drew] | rw [World.cell?_alloc_past _ _ _ (by first | (simp; done) | (simp; omega))])); rw [World.cell?_alloc_at _ _ _ _ (by simp)]; rfl)
       have l1 := kept_cell g6 (b := w5.heap.size) (o := 1) (v := .int .i32 u1) (by (repeat (first | rw [World.cell?_drew] | rw [World.cell?_alloc_past _ _ _ (by first | (simp; done) | (simp; omega))])); rw [World.cell?_alloc_at _ _ _ _ (by simp)]; rfl)
       have l2 := kept_cell g6 (b := w5.heap.size) (o := 2) (v := .int .i32 u2) (by (repeat (first | rw [World.cell?_drew] | rw [World.cell?_alloc_past _ _ _ (by first | (simp; done) | (simp; omega))])); rw [World.cell?_alloc_at _ _ _ _ (by simp)]; rfl)
       have l3 := kept_cell g6 (b := w5.heap.size) (o := 3) (v := .int .i32 u3) (by (repeat (first | rw [World.cell?_drew] | rw [World.cell?_alloc_past _ _ _ (by first | (simp; done) | (simp; omega))])); rw [World.cell?_alloc_at _ _ _ _ (by simp)]; rfl)
       replace gg := grown_trans (gg.alloc _ _) g6
       have zp_w6 : w.heap.size < w6.heap.size := World.block_lt_of_cell? _ _ p0
       have zq_w6 : w.heap.size + 1 < w6.heap.size := World.block_lt_of_cell? _ _ q0
       have zn_w6 : w.heap.size + 1 + 1 < w6.heap.size := World.block_lt_of_cell? _ _ n0
       have zr_w6 : w2.heap.size < w6.heap.size := World.block_lt_of_cell? _ _ r0
       have zs_w6 : w3.heap.size < w6.heap.size := World.block_lt_of_cell? _ _ s0
       have zk_w6 : w4.heap.size < w6.heap.size := World.block_lt_of_cell? _ _ k0
       have zl_w6 : w5.heap.size < w6.heap.size := World.block_lt_of_cell? _ _ l0)
    | ((with_reducible refine (K2.out _).mono ?_); rintro e w7 ⟨rfl, g7⟩
       replace p0 := kept_cell g7 (b := w.heap.size) (o := 0) (v := .int .i32 xa) p0
       replace p1 := kept_cell g7 (b := w.heap.size) (o := 1) (v := .int .i32 ya) p1
       replace p2 := kept_cell g7 (b := w.heap.size) (o := 2) (v := .int .i32 za) p2
       replace p3 := kept_cell g7 (b := w.heap.size) (o := 3) (v := .int .i32 ta) p3
       replace q0 := kept_cell g7 (b := w.heap.size + 1) (o := 0) (v := .int .i32 xb) q0
       replace q1 := kept_cell g7 (b := w.heap.size + 1) (o := 1) (v := .int .i32 yb) q1
       replace q2 := kept_cell g7 (b := w.heap.size + 1) (o := 2) (v := .int .i32 zb) q2
       replace q3 := kept_cell g7 (b := w.heap.size + 1) (o := 3) (v := .int .i32 tb) q3
       replace n0 := kept_cell g7 (b := w.heap.size + 1 + 1) (o := 0) (v := .int .i32 x) n0
       replace n1 := kept_cell g7 (b := w.heap.size + 1 + 1) (o := 1) (v := .int .i32 y) n1
       replace r0 := kept_cell g7 (b := w2.heap.size) (o := 0) (v := .int .i32 xa) r0
       replace r1 := kept_cell g7 (b := w2.heap.size) (o := 1) (v := .int .i32 ya) r1
       replace r2 := kept_cell g7 (b := w2.heap.size) (o := 2) (v := .int .i32 za) r2
       replace r3 := kept_cell g7 (b := w2.heap.size) (o := 3) (v := .int .i32 ta) r3
       replace s0 := kept_cell g7 (b := w3.heap.size) (o := 0) (v := .int .i32 xb) s0
       replace s1 := kept_cell g7 (b := w3.heap.size) (o := 1) (v := .int .i32 yb) s1
       replace s2 := kept_cell g7 (b := w3.heap.size) (o := 2) (v := .int .i32 zb) s2
       replace s3 := kept_cell g7 (b := w3.heap.size) (o := 3) (v := .int .i32 tb) s3
       replace k0 := kept_cell g7 (b := w4.heap.size) (o := 0) (v := .int .i32 m0) k0
       replace k1 := kept_cell g7 (b := w4.heap.size) (o := 1) (v := .int .i32 m1) k1
       replace k2 := kept_cell g7 (b := w4.heap.size) (o := 2) (v := .int .i32 m2) k2
       replace k3 := kept_cell g7 (b := w4.heap.size) (o := 3) (v := .int .i32 m3) k3
       replace l0 := kept_cell g7 (b := w5.heap.size) (o := 0) (v := .int .i32 u0) l0
       replace l1 := kept_cell g7 (b := w5.heap.size) (o := 1) (v := .int .i32 u1) l1
       replace l2 := kept_cell g7 (b := w5.heap.size) (o := 2) (v := .int .i32 u2) l2
       replace l3 := kept_cell g7 (b := w5.heap.size) (o := 3) (v := .int .i32 u3) l3
       replace gg := grown_trans gg g7
       have zp_w7 : w.heap.size < w7.heap.size := World.block_lt_of_cell? _ _ p0
       have zq_w7 : w.heap.size + 1 < w7.heap.size := World.block_lt_of_cell? _ _ q0
       have zn_w7 : w.heap.size + 1 + 1 < w7.heap.size := World.block_lt_of_cell? _ _ n0
       have zr_w7 : w2.heap.size < w7.heap.size := World.block_lt_of_cell? _ _ r0
       have zs_w7 : w3.heap.size < w7.heap.size := World.block_lt_of_cell? _ _ s0
       have zk_w7 : w4.heap.size < w7.heap.size := World.block_lt_of_cell? _ _ k0
       have zl_w7 : w5.heap.size < w7.heap.size := World.block_lt_of_cell? _ _ l0))
  refine wp_region_noPanic ?_
  refine wp_region_held_drew (S := (fun w' => w'.cell? ⟨w.heap.size, 0, none⟩ = some (.int .i32 xa) ∧ w'.cell? ⟨w.heap.size, 1, none⟩ = some (.int .i32 ya) ∧ w'.cell? ⟨w.heap.size, 2, none⟩ = some (.int .i32 za) ∧ w'.cell? ⟨w.heap.size, 3, none⟩ = some (.int .i32 ta) ∧ w'.cell? ⟨w.heap.size + 1, 0, none⟩ = some (.int .i32 xb) ∧ w'.cell? ⟨w.heap.size + 1, 1, none⟩ = some (.int .i32 yb) ∧ w'.cell? ⟨w.heap.size + 1, 2, none⟩ = some (.int .i32 zb) ∧ w'.cell? ⟨w.heap.size + 1, 3, none⟩ = some (.int .i32 tb) ∧ w'.cell? ⟨w.heap.size + 1 + 1, 0, none⟩ = some (.int .i32 x) ∧ w'.cell? ⟨w.heap.size + 1 + 1, 1, none⟩ = some (.int .i32 y) ∧ w'.cell? ⟨w2.heap.size, 0, none⟩ = some (.int .i32 xa) ∧ w'.cell? ⟨w2.heap.size, 1, none⟩ = some (.int .i32 ya) ∧ w'.cell? ⟨w2.heap.size, 2, none⟩ = some (.int .i32 za) ∧ w'.cell? ⟨w2.heap.size, 3, none⟩ = some (.int .i32 ta) ∧ w'.cell? ⟨w3.heap.size, 0, none⟩ = some (.int .i32 xb) ∧ w'.cell? ⟨w3.heap.size, 1, none⟩ = some (.int .i32 yb) ∧ w'.cell? ⟨w3.heap.size, 2, none⟩ = some (.int .i32 zb) ∧ w'.cell? ⟨w3.heap.size, 3, none⟩ = some (.int .i32 tb) ∧ w'.cell? ⟨w4.heap.size, 0, none⟩ = some (.int .i32 m0) ∧ w'.cell? ⟨w4.heap.size, 1, none⟩ = some (.int .i32 m1) ∧ w'.cell? ⟨w4.heap.size, 2, none⟩ = some (.int .i32 m2) ∧ w'.cell? ⟨w4.heap.size, 3, none⟩ = some (.int .i32 m3) ∧ w'.cell? ⟨w5.heap.size, 0, none⟩ = some (.int .i32 u0) ∧ w'.cell? ⟨w5.heap.size, 1, none⟩ = some (.int .i32 u1) ∧ w'.cell? ⟨w5.heap.size, 2, none⟩ = some (.int .i32 u2) ∧ w'.cell? ⟨w5.heap.size, 3, none⟩ = some (.int .i32 u3) ∧ Grown w w')) (by kernel_rfl) (⟨by rw [World.cell?_drew]; exact p0, by rw [World.cell?_drew]; exact p1, by rw [World.cell?_drew]; exact p2, by rw [World.cell?_drew]; exact p3, by rw [World.cell?_drew]; exact q0, by rw [World.cell?_drew]; exact q1, by rw [World.cell?_drew]; exact q2, by rw [World.cell?_drew]; exact q3, by rw [World.cell?_drew]; exact n0, by rw [World.cell?_drew]; exact n1, by rw [World.cell?_drew]; exact r0, by rw [World.cell?_drew]; exact r1, by rw [World.cell?_drew]; exact r2, by rw [World.cell?_drew]; exact r3, by rw [World.cell?_drew]; exact s0, by rw [World.cell?_drew]; exact s1, by rw [World.cell?_drew]; exact s2, by rw [World.cell?_drew]; exact s3, by rw [World.cell?_drew]; exact k0, by rw [World.cell?_drew]; exact k1, by rw [World.cell?_drew]; exact k2, by rw [World.cell?_drew]; exact k3, by rw [World.cell?_drew]; exact l0, by rw [World.cell?_drew]; exact l1, by rw [World.cell?_drew]; exact l2, by rw [World.cell?_drew]; exact l3, (gg).drew⟩) (fun hH => ?_)
  refine wpAnyH_take (i := 0) (oi := { dst := some 32, op := Op.load 31 (Operand.tmp 9), type := _, pos := _, after := _, guard := none }) (v := ?_) rfl (by kernel_rfl) (by kernel_rfl) (by kernel_rfl) (fun _ _ _ h => h) (Or.inl ⟨by rfl, ?_⟩) hH ?_
  rotate_left
  · (intro w hSw; (try dsimp only at hSw); go_simp; (try with_reducible rfl))
  try simp only [Act.put, List.setIfInBounds_toArray, List.set_cons_zero, List.set_cons_succ]
  refine wpAnyH_take (i := 1) (oi := { dst := some 33, op := Op.load 24 (Operand.tmp 5), type := _, pos := _, after := _, guard := none }) (v := ?_) rfl (by kernel_rfl) (by kernel_rfl) (by kernel_rfl) (fun _ _ _ h => h) (Or.inl ⟨by rfl, ?_⟩) hH ?_
  rotate_left
  · (intro w hSw; (try dsimp only at hSw); go_simp; (try with_reducible rfl))
  try simp only [Act.put, List.setIfInBounds_toArray, List.set_cons_zero, List.set_cons_succ]
  refine wpAnyH_take (i := 3) (oi := { dst := some 35, op := Op.move (Operand.tmp 11), type := _, pos := _, after := _, guard := none }) (v := ?_) rfl (by kernel_rfl) (by kernel_rfl) (by kernel_rfl) (fun _ _ _ h => h) (Or.inl ⟨by rfl, ?_⟩) hH ?_
  rotate_left
  · (intro w hSw; (try dsimp only at hSw); go_simp; (try with_reducible rfl))
  try simp only [Act.put, List.setIfInBounds_toArray, List.set_cons_zero, List.set_cons_succ]
  refine wpAnyH_ready (rs := [2]) (by kernel_rfl) (by simp) ?_
  refine AllReadyH.cons (o := { dst := some 34, op := Op.call { callee := Callee.value (Operand.func 17), args := #[Operand.tmp 32, Operand.tmp 33], argTypes := #[31, 24] }, type := _, pos := _, after := _, guard := none }) rfl (fun K hK => ?_) AllReadyH.nil
  go_simp
  (with_reducible refine (C3.out _).mono ?_); rintro e v8_2 ⟨rfl, g⟩
  refine hK.out _ _ (by (try dsimp only); (go_split_ands; exact ⟨kept_cell g (by assumption), kept_cell g (by assumption), kept_cell g (by assumption), kept_cell g (by assumption), kept_cell g (by assumption), kept_cell g (by assumption), kept_cell g (by assumption), kept_cell g (by assumption), kept_cell g (by assumption), kept_cell g (by assumption), kept_cell g (by assumption), kept_cell g (by assumption), kept_cell g (by assumption), kept_cell g (by assumption), kept_cell g (by assumption), kept_cell g (by assumption), kept_cell g (by assumption), kept_cell g (by assumption), kept_cell g (by assumption), kept_cell g (by assumption), kept_cell g (by assumption), kept_cell g (by assumption), kept_cell g (by assumption), kept_cell g (by assumption), kept_cell g (by assumption), kept_cell g (by assumption), grown_trans (by assumption) g⟩)) (fun hH2 => ?_)
  clear hK K hH; have hH := hH2; clear hH2
  try simp only [Act.put, List.setIfInBounds_toArray, List.set_cons_zero, List.set_cons_succ]
  refine wpAnyH_take (i := 4) (oi := { dst := some 36, op := Op.binOp BinOp.neq 4 (Operand.tmp 34) (Operand.tmp 35) 4, type := _, pos := _, after := _, guard := none }) (v := ?_) rfl (by kernel_rfl) (by kernel_rfl) (by kernel_rfl) (fun _ _ _ h => h) (Or.inl ⟨by rfl, ?_⟩) hH ?_
  rotate_left
  · (intro w hSw; (try dsimp only at hSw); go_simp; (try with_reducible rfl))
  try simp only [Act.put, List.setIfInBounds_toArray, List.set_cons_zero, List.set_cons_succ]
  refine wpAnyH_take (i := 5) (oi := { dst := some 37, op := Op.move (Operand.tmp 36), type := _, pos := _, after := _, guard := none }) (v := ?_) rfl (by kernel_rfl) (by kernel_rfl) (by kernel_rfl) (fun _ _ _ h => h) (Or.inl ⟨by rfl, ?_⟩) hH ?_
  rotate_left
  · (intro w hSw; (try dsimp only at hSw); go_simp; (try with_reducible rfl))
  try simp only [Act.put, List.setIfInBounds_toArray, List.set_cons_zero, List.set_cons_succ]
  refine wpAnyH_take (i := 6) (oi := { dst := some 38, op := Op.load 31 (Operand.tmp 7), type := _, pos := _, after := _, guard := some (5, false) }) (v := ?_) rfl (by kernel_rfl) (by kernel_rfl) (by kernel_rfl) (fun _ _ _ h => h) (Or.inl ⟨by rfl, ?_⟩) hH ?_
  rotate_left
  · (intro w hSw; (try dsimp only at hSw); go_simp; (try with_reducible rfl))
  try simp only [Act.put, List.setIfInBounds_toArray, List.set_cons_zero, List.set_cons_succ]
  refine wpAnyH_take (i := 7) (oi := { dst := some 39, op := Op.load 24 (Operand.tmp 5), type := _, pos := _, after := _, guard := some (5, false) }) (v := ?_) rfl (by kernel_rfl) (by kernel_rfl) (by kernel_rfl) (fun _ _ _ h => h) (Or.inl ⟨by rfl, ?_⟩) hH ?_
  rotate_left
  · (intro w hSw; (try dsimp only at hSw); go_simp; (try with_reducible rfl))
  try simp only [Act.put, List.setIfInBounds_toArray, List.set_cons_zero, List.set_cons_succ]
  refine wpAnyH_ready (rs := [8]) (by kernel_rfl) (by simp) ?_
  refine AllReadyH.cons (o := { dst := some 40, op := Op.call { callee := Callee.value (Operand.func 17), args := #[Operand.tmp 38, Operand.tmp 39], argTypes := #[31, 24] }, type := _, pos := _, after := _, guard := some (5, false) }) rfl (fun K hK => ?_) AllReadyH.nil
  go_simp
  (with_reducible refine (K1.out _).mono ?_); rintro e v8_8 ⟨rfl, g⟩
  refine hK.out _ _ (by (try dsimp only); (go_split_ands; exact ⟨kept_cell g (by assumption), kept_cell g (by assumption), kept_cell g (by assumption), kept_cell g (by assumption), kept_cell g (by assumption), kept_cell g (by assumption), kept_cell g (by assumption), kept_cell g (by assumption), kept_cell g (by assumption), kept_cell g (by assumption), kept_cell g (by assumption), kept_cell g (by assumption), kept_cell g (by assumption), kept_cell g (by assumption), kept_cell g (by assumption), kept_cell g (by assumption), kept_cell g (by assumption), kept_cell g (by assumption), kept_cell g (by assumption), kept_cell g (by assumption), kept_cell g (by assumption), kept_cell g (by assumption), kept_cell g (by assumption), kept_cell g (by assumption), kept_cell g (by assumption), kept_cell g (by assumption), grown_trans (by assumption) g⟩)) (fun hH2 => ?_)
  clear hK K hH; have hH := hH2; clear hH2
  try simp only [Act.put, List.setIfInBounds_toArray, List.set_cons_zero, List.set_cons_succ]
  refine wpAnyH_take (i := 9) (oi := { dst := some 41, op := Op.move (Operand.tmp 40), type := _, pos := _, after := _, guard := some (5, false) }) (v := ?_) rfl (by kernel_rfl) (by kernel_rfl) (by kernel_rfl) (fun _ _ _ h => h) (Or.inl ⟨by rfl, ?_⟩) hH ?_
  rotate_left
  · (intro w hSw; (try dsimp only at hSw); go_simp; (try with_reducible rfl))
  try simp only [Act.put, List.setIfInBounds_toArray, List.set_cons_zero, List.set_cons_succ]
  refine wpAnyH_take (i := 10) (oi := { dst := some 42, op := Op.load 31 (Operand.tmp 8), type := _, pos := _, after := _, guard := some (9, false) }) (v := ?_) rfl (by kernel_rfl) (by kernel_rfl) (by kernel_rfl) (fun _ _ _ h => h) (Or.inl ⟨by rfl, ?_⟩) hH ?_
  rotate_left
  · (intro w hSw; (try dsimp only at hSw); go_simp; (try with_reducible rfl))
  try simp only [Act.put, List.setIfInBounds_toArray, List.set_cons_zero, List.set_cons_succ]
  refine wpAnyH_take (i := 11) (oi := { dst := some 43, op := Op.load 24 (Operand.tmp 5), type := _, pos := _, after := _, guard := some (9, false) }) (v := ?_) rfl (by kernel_rfl) (by kernel_rfl) (by kernel_rfl) (fun _ _ _ h => h) (Or.inl ⟨by rfl, ?_⟩) hH ?_
  rotate_left
  · (intro w hSw; (try dsimp only at hSw); go_simp; (try with_reducible rfl))
  try simp only [Act.put, List.setIfInBounds_toArray, List.set_cons_zero, List.set_cons_succ]
  refine wpAnyH_ready (rs := [12]) (by kernel_rfl) (by simp) ?_
  refine AllReadyH.cons (o := { dst := some 44, op := Op.call { callee := Callee.value (Operand.func 17), args := #[Operand.tmp 42, Operand.tmp 43], argTypes := #[31, 24] }, type := _, pos := _, after := _, guard := some (9, false) }) rfl (fun K hK => ?_) AllReadyH.nil
  go_simp
  (with_reducible refine (K2.out _).mono ?_); rintro e v8_12 ⟨rfl, g⟩
  refine hK.out _ _ (by (try dsimp only); (go_split_ands; exact ⟨kept_cell g (by assumption), kept_cell g (by assumption), kept_cell g (by assumption), kept_cell g (by assumption), kept_cell g (by assumption), kept_cell g (by assumption), kept_cell g (by assumption), kept_cell g (by assumption), kept_cell g (by assumption), kept_cell g (by assumption), kept_cell g (by assumption), kept_cell g (by assumption), kept_cell g (by assumption), kept_cell g (by assumption), kept_cell g (by assumption), kept_cell g (by assumption), kept_cell g (by assumption), kept_cell g (by assumption), kept_cell g (by assumption), kept_cell g (by assumption), kept_cell g (by assumption), kept_cell g (by assumption), kept_cell g (by assumption), kept_cell g (by assumption), kept_cell g (by assumption), kept_cell g (by assumption), grown_trans (by assumption) g⟩)) (fun hH2 => ?_)
  clear hK K hH; have hH := hH2; clear hH2
  try simp only [Act.put, List.setIfInBounds_toArray, List.set_cons_zero, List.set_cons_succ]
  refine wpAnyH_take (i := 13) (oi := { dst := some 45, op := Op.pick (Operand.tmp 41) (Operand.const (Value.bool true)) (Operand.tmp 44), type := _, pos := _, after := _, guard := some (5, false) }) (v := ?_) rfl (by kernel_rfl) (by kernel_rfl) (by kernel_rfl) (fun _ _ _ h => h) (Or.inl ⟨by rfl, ?_⟩) hH ?_
  rotate_left
  · (intro w hSw; (try dsimp only at hSw); go_simp; (try with_reducible rfl))
  try simp only [Act.put, List.setIfInBounds_toArray, List.set_cons_zero, List.set_cons_succ]
  refine wpAnyH_take (i := 14) (oi := { dst := some 46, op := Op.move (Operand.tmp 45), type := _, pos := _, after := _, guard := some (5, false) }) (v := ?_) rfl (by kernel_rfl) (by kernel_rfl) (by kernel_rfl) (fun _ _ _ h => h) (Or.inl ⟨by rfl, ?_⟩) hH ?_
  rotate_left
  · (intro w hSw; (try dsimp only at hSw); go_simp; (try with_reducible rfl))
  try simp only [Act.put, List.setIfInBounds_toArray, List.set_cons_zero, List.set_cons_succ]
  refine wpAnyH_take (i := 15) (oi := { dst := some 47, op := Op.load 31 (Operand.tmp 10), type := _, pos := _, after := _, guard := some (14, true) }) (v := undef) rfl (by kernel_rfl) (by kernel_rfl) (by kernel_rfl) (fun _ _ _ h => h) (Or.inr ⟨by rfl, rfl⟩) hH ?_
  try simp only [Act.put, List.setIfInBounds_toArray, List.set_cons_zero, List.set_cons_succ]
  refine wpAnyH_take (i := 16) (oi := { dst := some 48, op := Op.load 24 (Operand.tmp 5), type := _, pos := _, after := _, guard := some (14, true) }) (v := undef) rfl (by kernel_rfl) (by kernel_rfl) (by kernel_rfl) (fun _ _ _ h => h) (Or.inr ⟨by rfl, rfl⟩) hH ?_
  try simp only [Act.put, List.setIfInBounds_toArray, List.set_cons_zero, List.set_cons_succ]
  refine wpAnyH_take (i := 17) (oi := { dst := some 49, op := Op.call { callee := Callee.value (Operand.func 17), args := #[Operand.tmp 47, Operand.tmp 48], argTypes := #[31, 24] }, type := _, pos := _, after := _, guard := some (14, true) }) (v := undef) rfl (by kernel_rfl) (by kernel_rfl) (by kernel_rfl) (fun _ _ _ h => h) (Or.inr ⟨by rfl, rfl⟩) hH ?_
  try simp only [Act.put, List.setIfInBounds_toArray, List.set_cons_zero, List.set_cons_succ]
  refine wpAnyH_take (i := 18) (oi := { dst := some 50, op := Op.unOp UnOp.not 4 (Operand.tmp 49), type := _, pos := _, after := _, guard := some (14, true) }) (v := undef) rfl (by kernel_rfl) (by kernel_rfl) (by kernel_rfl) (fun _ _ _ h => h) (Or.inr ⟨by rfl, rfl⟩) hH ?_
  try simp only [Act.put, List.setIfInBounds_toArray, List.set_cons_zero, List.set_cons_succ]
  refine wpAnyH_take (i := 19) (oi := { dst := some 51, op := Op.pick (Operand.tmp 46) (Operand.tmp 50) (Operand.const (Value.bool false)), type := _, pos := _, after := _, guard := some (5, false) }) (v := ?_) rfl (by kernel_rfl) (by kernel_rfl) (by kernel_rfl) (fun _ _ _ h => h) (Or.inl ⟨by rfl, ?_⟩) hH ?_
  rotate_left
  · (intro w hSw; (try dsimp only at hSw); go_simp; (try with_reducible rfl))
  try simp only [Act.put, List.setIfInBounds_toArray, List.set_cons_zero, List.set_cons_succ]
  refine wpAnyH_take (i := 20) (oi := { dst := some 52, op := Op.pick (Operand.tmp 37) (Operand.const (Value.bool true)) (Operand.tmp 51), type := _, pos := _, after := _, guard := none }) (v := ?_) rfl (by kernel_rfl) (by kernel_rfl) (by kernel_rfl) (fun _ _ _ h => h) (Or.inl ⟨by rfl, ?_⟩) hH ?_
  rotate_left
  · (intro w hSw; (try dsimp only at hSw); go_simp; (try with_reducible rfl))
  try simp only [Act.put, List.setIfInBounds_toArray, List.set_cons_zero, List.set_cons_succ]
  refine wpAnyH_take (i := 21) (oi := { dst := some 53, op := Op.move (Operand.tmp 52), type := _, pos := _, after := _, guard := none }) (v := ?_) rfl (by kernel_rfl) (by kernel_rfl) (by kernel_rfl) (fun _ _ _ h => h) (Or.inl ⟨by rfl, ?_⟩) hH ?_
  rotate_left
  · (intro w hSw; (try dsimp only at hSw); go_simp; (try with_reducible rfl))
  try simp only [Act.put, List.setIfInBounds_toArray, List.set_cons_zero, List.set_cons_succ]
  refine wpAnyH_take (i := 22) (oi := { dst := some 54, op := Op.load 31 (Operand.tmp 7), type := _, pos := _, after := _, guard := some (21, false) }) (v := ?_) rfl (by kernel_rfl) (by kernel_rfl) (by kernel_rfl) (fun _ _ _ h => h) (Or.inl ⟨by rfl, ?_⟩) hH ?_
  rotate_left
  · (intro w hSw; (try dsimp only at hSw); go_simp; (try with_reducible rfl))
  try simp only [Act.put, List.setIfInBounds_toArray, List.set_cons_zero, List.set_cons_succ]
  refine wpAnyH_take (i := 23) (oi := { dst := some 55, op := Op.load 31 (Operand.tmp 8), type := _, pos := _, after := _, guard := some (21, false) }) (v := ?_) rfl (by kernel_rfl) (by kernel_rfl) (by kernel_rfl) (fun _ _ _ h => h) (Or.inl ⟨by rfl, ?_⟩) hH ?_
  rotate_left
  · (intro w hSw; (try dsimp only at hSw); go_simp; (try with_reducible rfl))
  try simp only [Act.put, List.setIfInBounds_toArray, List.set_cons_zero, List.set_cons_succ]
  refine wpAnyH_take (i := 25) (oi := { dst := some 57, op := Op.load 31 (Operand.tmp 9), type := _, pos := _, after := _, guard := some (21, false) }) (v := ?_) rfl (by kernel_rfl) (by kernel_rfl) (by kernel_rfl) (fun _ _ _ h => h) (Or.inl ⟨by rfl, ?_⟩) hH ?_
  rotate_left
  · (intro w hSw; (try dsimp only at hSw); go_simp; (try with_reducible rfl))
  try simp only [Act.put, List.setIfInBounds_toArray, List.set_cons_zero, List.set_cons_succ]
  refine wpAnyH_ready (rs := [24]) (by kernel_rfl) (by simp) ?_
  refine AllReadyH.cons (o := { dst := some 56, op := Op.call { callee := Callee.value (Operand.func 15), args := #[Operand.tmp 54, Operand.tmp 55], argTypes := #[31, 31] }, type := _, pos := _, after := _, guard := some (21, false) }) rfl (fun K hK => ?_) AllReadyH.nil
  go_simp
  (with_reducible refine (O1.out _).mono ?_); rintro e v8_24 ⟨rfl, g⟩
  refine hK.out _ _ (by (try dsimp only); (go_split_ands; exact ⟨kept_cell g (by assumption), kept_cell g (by assumption), kept_cell g (by assumption), kept_cell g (by assumption), kept_cell g (by assumption), kept_cell g (by assumption), kept_cell g (by assumption), kept_cell g (by assumption), kept_cell g (by assumption), kept_cell g (by assumption), kept_cell g (by assumption), kept_cell g (by assumption), kept_cell g (by assumption), kept_cell g (by assumption), kept_cell g (by assumption), kept_cell g (by assumption), kept_cell g (by assumption), kept_cell g (by assumption), kept_cell g (by assumption), kept_cell g (by assumption), kept_cell g (by assumption), kept_cell g (by assumption), kept_cell g (by assumption), kept_cell g (by assumption), kept_cell g (by assumption), kept_cell g (by assumption), grown_trans (by assumption) g⟩)) (fun hH2 => ?_)
  clear hK K hH; have hH := hH2; clear hH2
  try simp only [Act.put, List.setIfInBounds_toArray, List.set_cons_zero, List.set_cons_succ]
  refine wpAnyH_ready (rs := [26]) (by kernel_rfl) (by simp) ?_
  refine AllReadyH.cons (o := { dst := some 58, op := Op.call { callee := Callee.value (Operand.func 13), args := #[Operand.tmp 57], argTypes := #[31] }, type := _, pos := _, after := _, guard := some (21, false) }) rfl (fun K hK => ?_) AllReadyH.nil
  go_simp
  (with_reducible refine (E1.out _).mono ?_); rintro e v8_26 ⟨rfl, g⟩
  refine hK.out _ _ (by (try dsimp only); (go_split_ands; exact ⟨kept_cell g (by assumption), kept_cell g (by assumption), kept_cell g (by assumption), kept_cell g (by assumption), kept_cell g (by assumption), kept_cell g (by assumption), kept_cell g (by assumption), kept_cell g (by assumption), kept_cell g (by assumption), kept_cell g (by assumption), kept_cell g (by assumption), kept_cell g (by assumption), kept_cell g (by assumption), kept_cell g (by assumption), kept_cell g (by assumption), kept_cell g (by assumption), kept_cell g (by assumption), kept_cell g (by assumption), kept_cell g (by assumption), kept_cell g (by assumption), kept_cell g (by assumption), kept_cell g (by assumption), kept_cell g (by assumption), kept_cell g (by assumption), kept_cell g (by assumption), kept_cell g (by assumption), grown_trans (by assumption) g⟩)) (fun hH2 => ?_)
  clear hK K hH; have hH := hH2; clear hH2
  try simp only [Act.put, List.setIfInBounds_toArray, List.set_cons_zero, List.set_cons_succ]
  refine wpAnyH_take (i := 27) (oi := { dst := some 59, op := Op.binOp BinOp.eql 4 (Operand.tmp 56) (Operand.tmp 58) 4, type := _, pos := _, after := _, guard := some (21, false) }) (v := ?_) rfl (by kernel_rfl) (by kernel_rfl) (by kernel_rfl) (fun _ _ _ h => h) (Or.inl ⟨by rfl, ?_⟩) hH ?_
  rotate_left
  · (intro w hSw; (try dsimp only at hSw); go_simp; (try with_reducible rfl))
  try simp only [Act.put, List.setIfInBounds_toArray, List.set_cons_zero, List.set_cons_succ]
  refine wpAnyH_take (i := 28) (oi := { dst := some 60, op := Op.pick (Operand.tmp 53) (Operand.const (Value.bool true)) (Operand.tmp 59), type := _, pos := _, after := _, guard := none }) (v := ?_) rfl (by kernel_rfl) (by kernel_rfl) (by kernel_rfl) (fun _ _ _ h => h) (Or.inl ⟨by rfl, ?_⟩) hH ?_
  rotate_left
  · (intro w hSw; (try dsimp only at hSw); go_simp; (try with_reducible rfl))
  try simp only [Act.put, List.setIfInBounds_toArray, List.set_cons_zero, List.set_cons_succ]
  refine wpAnyH_done (by kernel_rfl) ?_ _
  refine NoPanic.normal ?_
  clear p0 p1 p2 p3 q0 q1 q2 q3 n0 n1 r0 r1 r2 r3 s0 s1 s2 s3 k0 k1 k2 k3 l0 l1 l2 l3 gg
  obtain ⟨p0, p1, p2, p3, q0, q1, q2, q3, n0, n1, r0, r1, r2, r3, s0, s1, s2, s3, k0, k1, k2, k3, l0, l1, l2, l3, gg⟩ := hH
  go_wp2_with (first
    | ((with_reducible refine (E1.out _).mono ?_); rintro e w8 ⟨rfl, g8⟩
       replace p0 := kept_cell g8 (b := w.heap.size) (o := 0) (v := .int .i32 xa) p0
       replace p1 := kept_cell g8 (b := w.heap.size) (o := 1) (v := .int .i32 ya) p1
       replace p2 := kept_cell g8 (b := w.heap.size) (o := 2) (v := .int .i32 za) p2
       replace p3 := kept_cell g8 (b := w.heap.size) (o := 3) (v := .int .i32 ta) p3
       replace q0 := kept_cell g8 (b := w.heap.size + 1) (o := 0) (v := .int .i32 xb) q0
       replace q1 := kept_cell g8 (b := w.heap.size + 1) (o := 1) (v := .int .i32 yb) q1
       replace q2 := kept_cell g8 (b := w.heap.size + 1) (o := 2) (v := .int .i32 zb) q2
       replace q3 := kept_cell g8 (b := w.heap.size + 1) (o := 3) (v := .int .i32 tb) q3
       replace n0 := kept_cell g8 (b := w.heap.size + 1 + 1) (o := 0) (v := .int .i32 x) n0
       replace n1 := kept_cell g8 (b := w.heap.size + 1 + 1) (o := 1) (v := .int .i32 y) n1
       replace r0 := kept_cell g8 (b := w2.heap.size) (o := 0) (v := .int .i32 xa) r0
       replace r1 := kept_cell g8 (b := w2.heap.size) (o := 1) (v := .int .i32 ya) r1
       replace r2 := kept_cell g8 (b := w2.heap.size) (o := 2) (v := .int .i32 za) r2
       replace r3 := kept_cell g8 (b := w2.heap.size) (o := 3) (v := .int .i32 ta) r3
       replace s0 := kept_cell g8 (b := w3.heap.size) (o := 0) (v := .int .i32 xb) s0
       replace s1 := kept_cell g8 (b := w3.heap.size) (o := 1) (v := .int .i32 yb) s1
       replace s2 := kept_cell g8 (b := w3.heap.size) (o := 2) (v := .int .i32 zb) s2
       replace s3 := kept_cell g8 (b := w3.heap.size) (o := 3) (v := .int .i32 tb) s3
       replace k0 := kept_cell g8 (b := w4.heap.size) (o := 0) (v := .int .i32 m0) k0
       replace k1 := kept_cell g8 (b := w4.heap.size) (o := 1) (v := .int .i32 m1) k1
       replace k2 := kept_cell g8 (b := w4.heap.size) (o := 2) (v := .int .i32 m2) k2
       replace k3 := kept_cell g8 (b := w4.heap.size) (o := 3) (v := .int .i32 m3) k3
       replace l0 := kept_cell g8 (b := w5.heap.size) (o := 0) (v := .int .i32 u0) l0
       replace l1 := kept_cell g8 (b := w5.heap.size) (o := 1) (v := .int .i32 u1) l1
       replace l2 := kept_cell g8 (b := w5.heap.size) (o := 2) (v := .int .i32 u2) l2
       replace l3 := kept_cell g8 (b := w5.heap.size) (o := 3) (v := .int .i32 u3) l3
       replace gg := grown_trans gg g8
       have zp_w8 : w.heap.size < w8.heap.size := World.block_lt_of_cell? _ _ p0
       have zq_w8 : w.heap.size + 1 < w8.heap.size := World.block_lt_of_cell? _ _ q0
       have zn_w8 : w.heap.size + 1 + 1 < w8.heap.size := World.block_lt_of_cell? _ _ n0
       have zr_w8 : w2.heap.size < w8.heap.size := World.block_lt_of_cell? _ _ r0
       have zs_w8 : w3.heap.size < w8.heap.size := World.block_lt_of_cell? _ _ s0
       have zk_w8 : w4.heap.size < w8.heap.size := World.block_lt_of_cell? _ _ k0
       have zl_w8 : w5.heap.size < w8.heap.size := World.block_lt_of_cell? _ _ l0)
    | ((with_reducible refine (RA.out _).mono ?_); rintro e w9 ⟨rfl, g9⟩
       replace p0 := kept_cell g9 (b := w.heap.size) (o := 0) (v := .int .i32 xa) p0
       replace p1 := kept_cell g9 (b := w.heap.size) (o := 1) (v := .int .i32 ya) p1
       replace p2 := kept_cell g9 (b := w.heap.size) (o := 2) (v := .int .i32 za) p2
       replace p3 := kept_cell g9 (b := w.heap.size) (o := 3) (v := .int .i32 ta) p3
       replace q0 := kept_cell g9 (b := w.heap.size + 1) (o := 0) (v := .int .i32 xb) q0
       replace q1 := kept_cell g9 (b := w.heap.size + 1) (o := 1) (v := .int .i32 yb) q1
       replace q2 := kept_cell g9 (b := w.heap.size + 1) (o := 2) (v := .int .i32 zb) q2
       replace q3 := kept_cell g9 (b := w.heap.size + 1) (o := 3) (v := .int .i32 tb) q3
       replace n0 := kept_cell g9 (b := w.heap.size + 1 + 1) (o := 0) (v := .int .i32 x) n0
       replace n1 := kept_cell g9 (b := w.heap.size + 1 + 1) (o := 1) (v := .int .i32 y) n1
       replace r0 := kept_cell g9 (b := w2.heap.size) (o := 0) (v := .int .i32 xa) r0
       replace r1 := kept_cell g9 (b := w2.heap.size) (o := 1) (v := .int .i32 ya) r1
       replace r2 := kept_cell g9 (b := w2.heap.size) (o := 2) (v := .int .i32 za) r2
       replace r3 := kept_cell g9 (b := w2.heap.size) (o := 3) (v := .int .i32 ta) r3
       replace s0 := kept_cell g9 (b := w3.heap.size) (o := 0) (v := .int .i32 xb) s0
       replace s1 := kept_cell g9 (b := w3.heap.size) (o := 1) (v := .int .i32 yb) s1
       replace s2 := kept_cell g9 (b := w3.heap.size) (o := 2) (v := .int .i32 zb) s2
       replace s3 := kept_cell g9 (b := w3.heap.size) (o := 3) (v := .int .i32 tb) s3
       replace k0 := kept_cell g9 (b := w4.heap.size) (o := 0) (v := .int .i32 m0) k0
       replace k1 := kept_cell g9 (b := w4.heap.size) (o := 1) (v := .int .i32 m1) k1
       replace k2 := kept_cell g9 (b := w4.heap.size) (o := 2) (v := .int .i32 m2) k2
       replace k3 := kept_cell g9 (b := w4.heap.size) (o := 3) (v := .int .i32 m3) k3
       replace l0 := kept_cell g9 (b := w5.heap.size) (o := 0) (v := .int .i32 u0) l0
       replace l1 := kept_cell g9 (b := w5.heap.size) (o := 1) (v := .int .i32 u1) l1
       replace l2 := kept_cell g9 (b := w5.heap.size) (o := 2) (v := .int .i32 u2) l2
       replace l3 := kept_cell g9 (b := w5.heap.size) (o := 3) (v := .int .i32 u3) l3
       replace gg := grown_trans gg g9
       have zp_w9 : w.heap.size < w9.heap.size := World.block_lt_of_cell? _ _ p0
       have zq_w9 : w.heap.size + 1 < w9.heap.size := World.block_lt_of_cell? _ _ q0
       have zn_w9 : w.heap.size + 1 + 1 < w9.heap.size := World.block_lt_of_cell? _ _ n0
       have zr_w9 : w2.heap.size < w9.heap.size := World.block_lt_of_cell? _ _ r0
       have zs_w9 : w3.heap.size < w9.heap.size := World.block_lt_of_cell? _ _ s0
       have zk_w9 : w4.heap.size < w9.heap.size := World.block_lt_of_cell? _ _ k0
       have zl_w9 : w5.heap.size < w9.heap.size := World.block_lt_of_cell? _ _ l0)
    | ((with_reducible refine (RB.out _).mono ?_); rintro e w10 ⟨rfl, g10⟩
       replace p0 := kept_cell g10 (b := w.heap.size) (o := 0) (v := .int .i32 xa) p0
       replace p1 := kept_cell g10 (b := w.heap.size) (o := 1) (v := .int .i32 ya) p1
       replace p2 := kept_cell g10 (b := w.heap.size) (o := 2) (v := .int .i32 za) p2
       replace p3 := kept_cell g10 (b := w.heap.size) (o := 3) (v := .int .i32 ta) p3
       replace q0 := kept_cell g10 (b := w.heap.size + 1) (o := 0) (v := .int .i32 xb) q0
       replace q1 := kept_cell g10 (b := w.heap.size + 1) (o := 1) (v := .int .i32 yb) q1
       replace q2 := kept_cell g10 (b := w.heap.size + 1) (o := 2) (v := .int .i32 zb) q2
       replace q3 := kept_cell g10 (b := w.heap.size + 1) (o := 3) (v := .int .i32 tb) q3
       replace n0 := kept_cell g10 (b := w.heap.size + 1 + 1) (o := 0) (v := .int .i32 x) n0
       replace n1 := kept_cell g10 (b := w.heap.size + 1 + 1) (o := 1) (v := .int .i32 y) n1
       replace r0 := kept_cell g10 (b := w2.heap.size) (o := 0) (v := .int .i32 xa) r0
       replace r1 := kept_cell g10 (b := w2.heap.size) (o := 1) (v := .int .i32 ya) r1
       replace r2 := kept_cell g10 (b := w2.heap.size) (o := 2) (v := .int .i32 za) r2
       replace r3 := kept_cell g10 (b := w2.heap.size) (o := 3) (v := .int .i32 ta) r3
       replace s0 := kept_cell g10 (b := w3.heap.size) (o := 0) (v := .int .i32 xb) s0
       replace s1 := kept_cell g10 (b := w3.heap.size) (o := 1) (v := .int .i32 yb) s1
       replace s2 := kept_cell g10 (b := w3.heap.size) (o := 2) (v := .int .i32 zb) s2
       replace s3 := kept_cell g10 (b := w3.heap.size) (o := 3) (v := .int .i32 tb) s3
       replace k0 := kept_cell g10 (b := w4.heap.size) (o := 0) (v := .int .i32 m0) k0
       replace k1 := kept_cell g10 (b := w4.heap.size) (o := 1) (v := .int .i32 m1) k1
       replace k2 := kept_cell g10 (b := w4.heap.size) (o := 2) (v := .int .i32 m2) k2
       replace k3 := kept_cell g10 (b := w4.heap.size) (o := 3) (v := .int .i32 m3) k3
       replace l0 := kept_cell g10 (b := w5.heap.size) (o := 0) (v := .int .i32 u0) l0
       replace l1 := kept_cell g10 (b := w5.heap.size) (o := 1) (v := .int .i32 u1) l1
       replace l2 := kept_cell g10 (b := w5.heap.size) (o := 2) (v := .int .i32 u2) l2
       replace l3 := kept_cell g10 (b := w5.heap.size) (o := 3) (v := .int .i32 u3) l3
       replace gg := grown_trans gg g10
       have zp_w10 : w.heap.size < w10.heap.size := World.block_lt_of_cell? _ _ p0
       have zq_w10 : w.heap.size + 1 < w10.heap.size := World.block_lt_of_cell? _ _ q0
       have zn_w10 : w.heap.size + 1 + 1 < w10.heap.size := World.block_lt_of_cell? _ _ n0
       have zr_w10 : w2.heap.size < w10.heap.size := World.block_lt_of_cell? _ _ r0
       have zs_w10 : w3.heap.size < w10.heap.size := World.block_lt_of_cell? _ _ s0
       have zk_w10 : w4.heap.size < w10.heap.size := World.block_lt_of_cell? _ _ k0
       have zl_w10 : w5.heap.size < w10.heap.size := World.block_lt_of_cell? _ _ l0))
  go_ret
  exact ⟨rfl, gg⟩
end Go.Proofs.Ytpbajmgjnpkgkaa
