/-
  Package box: the law BoxContains.
-/
import Derived.Test.YtpbajmgjnpkgkaaBoxLawG
import Derived.Deep.DeepCutAuto
namespace Go.Proofs.Ytpbajmgjnpkgkaa
open Go.RowKit Go.Lib

abbrev Aro (xa ya za ta x y r : Int) : Prop := ∀ w, Calls Try.prog 22 #[.agg #[.int .i32 xa, .int .i32 ya, .int .i32 za, .int .i32 ta], .agg #[.int .i32 x, .int .i32 y], .int .i32 r] w fun e w' => e = .returned (.bool true) ∧ Grown w w'
set_option maxRecDepth 100000 in
set_option maxHeartbeats 2000000 in
theorem aro (xa ya za ta x y r x1 x2 y1 y2 : Int) (h0 : wrap32 (x + r) = x1) (h1 : wrap32 (x - r) = x2) (h2 : wrap32 (y + r) = y1) (h3 : wrap32 (y - r) = y2) (C1 : Hid (BCo xa ya za ta x1 y true)) (C2 : Hid (BCo xa ya za ta x2 y true)) (C3 : Hid (BCo xa ya za ta x y1 true)) (C4 : Hid (BCo xa ya za ta x y2 true)) : Aro xa ya za ta x y r := fun w => by
  have f0 := wr32b h0
  have f1 := wr32b h1
  have f2 := wr32b h2
  have f3 := wr32b h3
  clear h0 h1 h2 h3
  go_enter Try.func22, Try.ntmps22
  go_wp2_with (first
    | ((with_reducible refine (C1.out _).mono ?_); rintro e w1 ⟨rfl, g1⟩
       have p0 := kept_cell g1 (b := w.heap.size) (o := 0) (v := .int .i32 xa) (by (repeat (first | rw [World.cell?_drew] | rw [World.cell?_alloc_past _ _ _ (by first | (simp; done) | (simp; omega))])); rw [World.cell?_alloc_at _ _ _ _ (by simp)]; rfl)
       have p1 := kept_cell g1 (b := w.heap.size) (o := 1) (v := .int .i32 ya) (by (repeat (first | rw [World.cell?_drew] | rw [World.cell?_alloc_past _ _ _ (by first | (simp; done) | (simp; omega))])); rw [World.cell?_alloc_at _ _ _ _ (by simp)]; rfl)
       have p2 := kept_cell g1 (b := w.heap.size) (o := 2) (v := .int .i32 za) (by (repeat (first | rw [World.cell?_drew] | rw [World.cell?_alloc_past _ _ _ (by first | (simp; done) | (simp; omega))])); rw [World.cell?_alloc_at _ _ _ _ (by simp)]; rfl)
       have p3 := kept_cell g1 (b := w.heap.size) (o := 3) (v := .int .i32 ta) (by (repeat (first | rw [World.cell?_drew] | rw [World.cell?_alloc_past _ _ _ (by first | (simp; done) | (simp; omega))])); rw [World.cell?_alloc_at _ _ _ _ (by simp)]; rfl)
       have q0 := kept_cell g1 (b := w.heap.size + 1) (o := 0) (v := .int .i32 x) (by (repeat (first | rw [World.cell?_drew] | rw [World.cell?_alloc_past _ _ _ (by first | (simp; done) | (simp; omega))])); rw [World.cell?_alloc_at _ _ _ _ (by simp)]; rfl)
       have q1 := kept_cell g1 (b := w.heap.size + 1) (o := 1) (v := .int .i32 y) (by (repeat (first | rw [World.cell?_drew] | rw [World.cell?_alloc_past _ _ _ (by first | (simp; done) | (simp; omega))])); rw [World.cell?_alloc_at _ _ _ _ (by simp)]; rfl)
       have gg := grown_trans (((Grown.refl _).alloc _ _).alloc _ _) g1
       have zp_w1 : w.heap.size < w1.heap.size := World.block_lt_of_cell? _ _ p0
       have zq_w1 : w.heap.size + 1 < w1.heap.size := World.block_lt_of_cell? _ _ q0)
    | ((with_reducible refine (C2.out _).mono ?_); rintro e w2 ⟨rfl, g2⟩
       replace p0 := kept_cell g2 (b := w.heap.size) (o := 0) (v := .int .i32 xa) p0
       replace p1 := kept_cell g2 (b := w.heap.size) (o := 1) (v := .int .i32 ya) p1
       replace p2 := kept_cell g2 (b := w.heap.size) (o := 2) (v := .int .i32 za) p2
       replace p3 := kept_cell g2 (b := w.heap.size) (o := 3) (v := .int .i32 ta) p3
       replace q0 := kept_cell g2 (b := w.heap.size + 1) (o := 0) (v := .int .i32 x) q0
       replace q1 := kept_cell g2 (b := w.heap.size + 1) (o := 1) (v := .int .i32 y) q1
       replace gg := grown_trans gg g2
       have zp_w2 : w.heap.size < w2.heap.size := World.block_lt_of_cell? _ _ p0
       have zq_w2 : w.heap.size + 1 < w2.heap.size := World.block_lt_of_cell? _ _ q0)
    | ((with_reducible refine (C3.out _).mono ?_); rintro e w3 ⟨rfl, g3⟩
       replace p0 := kept_cell g3 (b := w.heap.size) (o := 0) (v := .int .i32 xa) p0
       replace p1 := kept_cell g3 (b := w.heap.size) (o := 1) (v := .int .i32 ya) p1
       replace p2 := kept_cell g3 (b := w.heap.size) (o := 2) (v := .int .i32 za) p2
       replace p3 := kept_cell g3 (b := w.heap.size) (o := 3) (v := .int .i32 ta) p3
       replace q0 := kept_cell g3 (b := w.heap.size + 1) (o := 0) (v := .int .i32 x) q0
       replace q1 := kept_cell g3 (b := w.heap.size + 1) (o := 1) (v := .int .i32 y) q1
       replace gg := grown_trans gg g3
       have zp_w3 : w.heap.size < w3.heap.size := World.block_lt_of_cell? _ _ p0
       have zq_w3 : w.heap.size + 1 < w3.heap.size := World.block_lt_of_cell? _ _ q0)
    | ((with_reducible refine (C4.out _).mono ?_); rintro e w4 ⟨rfl, g4⟩
       replace p0 := kept_cell g4 (b := w.heap.size) (o := 0) (v := .int .i32 xa) p0
       replace p1 := kept_cell g4 (b := w.heap.size) (o := 1) (v := .int .i32 ya) p1
       replace p2 := kept_cell g4 (b := w.heap.size) (o := 2) (v := .int .i32 za) p2
       replace p3 := kept_cell g4 (b := w.heap.size) (o := 3) (v := .int .i32 ta) p3
       replace q0 := kept_cell g4 (b := w.heap.size + 1) (o := 0) (v := .int .i32 x) q0
       replace q1 := kept_cell g4 (b := w.heap.size + 1) (o := 1) (v := .int .i32 y) q1
       replace gg := grown_trans gg g4
       have zp_w4 : w.heap.size < w4.heap.size := World.block_lt_of_cell? _ _ p0
       have zq_w4 : w.heap.size + 1 < w4.heap.size := World.block_lt_of_cell? _ _ q0))
  go_ret
  exact ⟨rfl, gg⟩
theorem aro_of (O : BOps) (xa ya za ta x y r : Int) (hr : 0 ≤ r) (h0 : xa ≤ x - r) (h1 : x + r ≤ za) (h2 : ya ≤ y - r) (h3 : y + r ≤ ta) (k0 : -2147483648 ≤ xa) (k1 : za < 2147483648) (k2 : -2147483648 ≤ ya) (k3 : ta < 2147483648) : Aro xa ya za ta x y r := by
  have cc : ∀ u v : Int, xa ≤ u → u ≤ za → ya ≤ v → v ≤ ta → BCo xa ya za ta u v true := fun u v p1 p2 p3 p4 => by
    have := O.contains xa ya za ta u v
    rw [show conB xa ya za ta u v = true from decide_eq_true ⟨p1, p2, p3, p4⟩] at this
    exact this
  exact aro xa ya za ta x y r (x + r) (x - r) (y + r) (y - r) (by unfold wrap32; omega) (by unfold wrap32; omega) (by unfold wrap32; omega) (by unfold wrap32; omega) (Lib.hid (cc _ _ (by omega) (by omega) (by omega) (by omega))) (Lib.hid (cc _ _ (by omega) (by omega) (by omega) (by omega))) (Lib.hid (cc _ _ (by omega) (by omega) (by omega) (by omega))) (Lib.hid (cc _ _ (by omega) (by omega) (by omega) (by omega)))
set_option maxRecDepth 100000 in
set_option maxHeartbeats 2000000 in
theorem bcl_bad (k r ax ay m o px py vx vy dx dy e1 : Int) (AW : Hid BAwake) (C1 : Hid (Rck k r ax ay m o px py vx vy e1)) (he : (e1 != 0) = true) (w : World) :
    Calls Try.prog 4 #[.agg #[.int .u32 k, .int .i32 r, .int .i32 ax, .int .i32 ay, .int .i32 m, .int .i32 o, .int .i32 px, .int .i32 py, .int .i32 vx, .int .i32 vy], .agg #[.int .i32 dx, .int .i32 dy]] w fun e w' => e = .returned (.bool true) ∧ Grown w w' := by
  go_enter Try.func4, Try.ntmps4
  go_wp2_with (first
    | ((with_reducible refine (AW.out _).mono ?_); rintro e w1 ⟨rfl, g1⟩
       (first | (replace gg := grown_trans gg g1) | (have c0 := kept_cell g1 (b := w.heap.size) (o := 0) (v := .int .u32 k) (by (repeat (first | rw [World.cell?_drew] | rw [World.cell?_alloc_past _ _ _ (by first | (simp; done) | (simp; omega))])); rw [World.cell?_alloc_at _ _ _ _ (by simp)]; rfl); have c1 := kept_cell g1 (b := w.heap.size) (o := 1) (v := .int .i32 r) (by (repeat (first | rw [World.cell?_drew] | rw [World.cell?_alloc_past _ _ _ (by first | (simp; done) | (simp; omega))])); rw [World.cell?_alloc_at _ _ _ _ (by simp)]; rfl); have c2 := kept_cell g1 (b := w.heap.size) (o := 2) (v := .int .i32 ax) (by (repeat (first | rw [World.cell?_drew] | rw [World.cell?_alloc_past _ _ _ (by first | (simp; done) | (simp; omega))])); rw [World.cell?_alloc_at _ _ _ _ (by simp)]; rfl); have c3 := kept_cell g1 (b := w.heap.size) (o := 3) (v := .int .i32 ay) (by (repeat (first | rw [World.cell?_drew] | rw [World.cell?_alloc_past _ _ _ (by first | (simp; done) | (simp; omega))])); rw [World.cell?_alloc_at _ _ _ _ (by simp)]; rfl); have c4 := kept_cell g1 (b := w.heap.size) (o := 4) (v := .int .i32 m) (by (repeat (first | rw [World.cell?_drew] | rw [World.cell?_alloc_past _ _ _ (by first | (simp; done) | (simp; omega))])); rw [World.cell?_alloc_at _ _ _ _ (by simp)]; rfl); have c5 := kept_cell g1 (b := w.heap.size) (o := 5) (v := .int .i32 o) (by (repeat (first | rw [World.cell?_drew] | rw [World.cell?_alloc_past _ _ _ (by first | (simp; done) | (simp; omega))])); rw [World.cell?_alloc_at _ _ _ _ (by simp)]; rfl); have c6 := kept_cell g1 (b := w.heap.size) (o := 6) (v := .int .i32 px) (by (repeat (first | rw [World.cell?_drew] | rw [World.cell?_alloc_past _ _ _ (by first | (simp; done) | (simp; omega))])); rw [World.cell?_alloc_at _ _ _ _ (by simp)]; rfl); have c7 := kept_cell g1 (b := w.heap.size) (o := 7) (v := .int .i32 py) (by (repeat (first | rw [World.cell?_drew] | rw [World.cell?_alloc_past _ _ _ (by first | (simp; done) | (simp; omega))])); rw [World.cell?_alloc_at _ _ _ _ (by simp)]; rfl); have c8 := kept_cell g1 (b := w.heap.size) (o := 8) (v := .int .i32 vx) (by (repeat (first | rw [World.cell?_drew] | rw [World.cell?_alloc_past _ _ _ (by first | (simp; done) | (simp; omega))])); rw [World.cell?_alloc_at _ _ _ _ (by simp)]; rfl); have c9 := kept_cell g1 (b := w.heap.size) (o := 9) (v := .int .i32 vy) (by (repeat (first | rw [World.cell?_drew] | rw [World.cell?_alloc_past _ _ _ (by first | (simp; done) | (simp; omega))])); rw [World.cell?_alloc_at _ _ _ _ (by simp)]; rfl); have d0 := kept_cell g1 (b := w.heap.size + 1) (o := 0) (v := .int .i32 dx) (by (repeat (first | rw [World.cell?_drew] | rw [World.cell?_alloc_past _ _ _ (by first | (simp; done) | (simp; omega))])); rw [World.cell?_alloc_at _ _ _ _ (by simp)]; rfl); have d1 := kept_cell g1 (b := w.heap.size + 1) (o := 1) (v := .int .i32 dy) (by (repeat (first | rw [World.cell?_drew] | rw [World.cell?_alloc_past _ _ _ (by first | (simp; done) | (simp; omega))])); rw [World.cell?_alloc_at _ _ _ _ (by simp)]; rfl); have gg := grown_trans (((Grown.refl _).alloc _ _).alloc _ _) g1)))
    | ((with_reducible refine (C1.out _).mono ?_); rintro e w2 ⟨rfl, g2⟩
       replace c0 := kept_cell g2 (b := w.heap.size) (o := 0) (v := .int .u32 k) c0
       replace c1 := kept_cell g2 (b := w.heap.size) (o := 1) (v := .int .i32 r) c1
       replace c2 := kept_cell g2 (b := w.heap.size) (o := 2) (v := .int .i32 ax) c2
       replace c3 := kept_cell g2 (b := w.heap.size) (o := 3) (v := .int .i32 ay) c3
       replace c4 := kept_cell g2 (b := w.heap.size) (o := 4) (v := .int .i32 m) c4
       replace c5 := kept_cell g2 (b := w.heap.size) (o := 5) (v := .int .i32 o) c5
       replace c6 := kept_cell g2 (b := w.heap.size) (o := 6) (v := .int .i32 px) c6
       replace c7 := kept_cell g2 (b := w.heap.size) (o := 7) (v := .int .i32 py) c7
       replace c8 := kept_cell g2 (b := w.heap.size) (o := 8) (v := .int .i32 vx) c8
       replace c9 := kept_cell g2 (b := w.heap.size) (o := 9) (v := .int .i32 vy) c9
       replace d0 := kept_cell g2 (b := w.heap.size + 1) (o := 0) (v := .int .i32 dx) d0
       replace d1 := kept_cell g2 (b := w.heap.size + 1) (o := 1) (v := .int .i32 dy) d1
       replace gg := grown_trans gg g2
       have zc_w2 : w.heap.size < w2.heap.size := World.block_lt_of_cell? _ _ c0
       have zd_w2 : w.heap.size + 1 < w2.heap.size := World.block_lt_of_cell? _ _ d0))
  go_ret
  exact ⟨rfl, gg⟩
set_option maxRecDepth 100000 in
set_option maxHeartbeats 2000000 in
theorem bcl_out0 (k r ax ay m o px py vx vy dx dy e1 : Int) (AW : Hid BAwake) (C1 : Hid (Rck k r ax ay m o px py vx vy e1)) (he : (e1 != 0) = false) (D0 : Hid (RIn dx 1000000000 false)) (w : World) :
    Calls Try.prog 4 #[.agg #[.int .u32 k, .int .i32 r, .int .i32 ax, .int .i32 ay, .int .i32 m, .int .i32 o, .int .i32 px, .int .i32 py, .int .i32 vx, .int .i32 vy], .agg #[.int .i32 dx, .int .i32 dy]] w fun e w' => e = .returned (.bool true) ∧ Grown w w' := by
  go_enter Try.func4, Try.ntmps4
  go_wp2_with (first
    | ((with_reducible refine (AW.out _).mono ?_); rintro e w1 ⟨rfl, g1⟩
       (first | (replace gg := grown_trans gg g1) | (have c0 := kept_cell g1 (b := w.heap.size) (o := 0) (v := .int .u32 k) (by (repeat (first | rw [World.cell?_drew] | rw [World.cell?_alloc_past _ _ _ (by first | (simp; done) | (simp; omega))])); rw [World.cell?_alloc_at _ _ _ _ (by simp)]; rfl); have c1 := kept_cell g1 (b := w.heap.size) (o := 1) (v := .int .i32 r) (by (repeat (first | rw [World.cell?_drew] | rw [World.cell?_alloc_past _ _ _ (by first | (simp; done) | (simp; omega))])); rw [World.cell?_alloc_at _ _ _ _ (by simp)]; rfl); have c2 := kept_cell g1 (b := w.heap.size) (o := 2) (v := .int .i32 ax) (by (repeat (first | rw [World.cell?_drew] | rw [World.cell?_alloc_past _ _ _ (by first | (simp; done) | (simp; omega))])); rw [World.cell?_alloc_at _ _ _ _ (by simp)]; rfl); have c3 := kept_cell g1 (b := w.heap.size) (o := 3) (v := .int .i32 ay) (by (repeat (first | rw [World.cell?_drew] | rw [World.cell?_alloc_past _ _ _ (by first | (simp; done) | (simp; omega))])); rw [World.cell?_alloc_at _ _ _ _ (by simp)]; rfl); have c4 := kept_cell g1 (b := w.heap.size) (o := 4) (v := .int .i32 m) (by (repeat (first | rw [World.cell?_drew] | rw [World.cell?_alloc_past _ _ _ (by first | (simp; done) | (simp; omega))])); rw [World.cell?_alloc_at _ _ _ _ (by simp)]; rfl); have c5 := kept_cell g1 (b := w.heap.size) (o := 5) (v := .int .i32 o) (by (repeat (first | rw [World.cell?_drew] | rw [World.cell?_alloc_past _ _ _ (by first | (simp; done) | (simp; omega))])); rw [World.cell?_alloc_at _ _ _ _ (by simp)]; rfl); have c6 := kept_cell g1 (b := w.heap.size) (o := 6) (v := .int .i32 px) (by (repeat (first | rw [World.cell?_drew] | rw [World.cell?_alloc_past _ _ _ (by first | (simp; done) | (simp; omega))])); rw [World.cell?_alloc_at _ _ _ _ (by simp)]; rfl); have c7 := kept_cell g1 (b := w.heap.size) (o := 7) (v := .int .i32 py) (by (repeat (first | rw [World.cell?_drew] | rw [World.cell?_alloc_past _ _ _ (by first | (simp; done) | (simp; omega))])); rw [World.cell?_alloc_at _ _ _ _ (by simp)]; rfl); have c8 := kept_cell g1 (b := w.heap.size) (o := 8) (v := .int .i32 vx) (by (repeat (first | rw [World.cell?_drew] | rw [World.cell?_alloc_past _ _ _ (by first | (simp; done) | (simp; omega))])); rw [World.cell?_alloc_at _ _ _ _ (by simp)]; rfl); have c9 := kept_cell g1 (b := w.heap.size) (o := 9) (v := .int .i32 vy) (by (repeat (first | rw [World.cell?_drew] | rw [World.cell?_alloc_past _ _ _ (by first | (simp; done) | (simp; omega))])); rw [World.cell?_alloc_at _ _ _ _ (by simp)]; rfl); have d0 := kept_cell g1 (b := w.heap.size + 1) (o := 0) (v := .int .i32 dx) (by (repeat (first | rw [World.cell?_drew] | rw [World.cell?_alloc_past _ _ _ (by first | (simp; done) | (simp; omega))])); rw [World.cell?_alloc_at _ _ _ _ (by simp)]; rfl); have d1 := kept_cell g1 (b := w.heap.size + 1) (o := 1) (v := .int .i32 dy) (by (repeat (first | rw [World.cell?_drew] | rw [World.cell?_alloc_past _ _ _ (by first | (simp; done) | (simp; omega))])); rw [World.cell?_alloc_at _ _ _ _ (by simp)]; rfl); have gg := grown_trans (((Grown.refl _).alloc _ _).alloc _ _) g1)))
    | ((with_reducible refine (C1.out _).mono ?_); rintro e w2 ⟨rfl, g2⟩
       replace c0 := kept_cell g2 (b := w.heap.size) (o := 0) (v := .int .u32 k) c0
       replace c1 := kept_cell g2 (b := w.heap.size) (o := 1) (v := .int .i32 r) c1
       replace c2 := kept_cell g2 (b := w.heap.size) (o := 2) (v := .int .i32 ax) c2
       replace c3 := kept_cell g2 (b := w.heap.size) (o := 3) (v := .int .i32 ay) c3
       replace c4 := kept_cell g2 (b := w.heap.size) (o := 4) (v := .int .i32 m) c4
       replace c5 := kept_cell g2 (b := w.heap.size) (o := 5) (v := .int .i32 o) c5
       replace c6 := kept_cell g2 (b := w.heap.size) (o := 6) (v := .int .i32 px) c6
       replace c7 := kept_cell g2 (b := w.heap.size) (o := 7) (v := .int .i32 py) c7
       replace c8 := kept_cell g2 (b := w.heap.size) (o := 8) (v := .int .i32 vx) c8
       replace c9 := kept_cell g2 (b := w.heap.size) (o := 9) (v := .int .i32 vy) c9
       replace d0 := kept_cell g2 (b := w.heap.size + 1) (o := 0) (v := .int .i32 dx) d0
       replace d1 := kept_cell g2 (b := w.heap.size + 1) (o := 1) (v := .int .i32 dy) d1
       replace gg := grown_trans gg g2
       have zc_w2 : w.heap.size < w2.heap.size := World.block_lt_of_cell? _ _ c0
       have zd_w2 : w.heap.size + 1 < w2.heap.size := World.block_lt_of_cell? _ _ d0)
    | ((with_reducible refine (D0.out _).mono ?_); rintro e w' ⟨rfl, rfl⟩))
  go_ret
  exact ⟨rfl, gg⟩
set_option maxRecDepth 100000 in
set_option maxHeartbeats 2000000 in
theorem bcl_out1 (k r ax ay m o px py vx vy dx dy e1 : Int) (AW : Hid BAwake) (C1 : Hid (Rck k r ax ay m o px py vx vy e1)) (he : (e1 != 0) = false) (D0 : Hid (RIn dx 1000000000 true)) (D1 : Hid (RIn dy 1000000000 false)) (w : World) :
    Calls Try.prog 4 #[.agg #[.int .u32 k, .int .i32 r, .int .i32 ax, .int .i32 ay, .int .i32 m, .int .i32 o, .int .i32 px, .int .i32 py, .int .i32 vx, .int .i32 vy], .agg #[.int .i32 dx, .int .i32 dy]] w fun e w' => e = .returned (.bool true) ∧ Grown w w' := by
  go_enter Try.func4, Try.ntmps4
  go_wp2_with (first
    | ((with_reducible refine (AW.out _).mono ?_); rintro e w1 ⟨rfl, g1⟩
       (first | (replace gg := grown_trans gg g1) | (have c0 := kept_cell g1 (b := w.heap.size) (o := 0) (v := .int .u32 k) (by (repeat (first | rw [World.cell?_drew] | rw [World.cell?_alloc_past _ _ _ (by first | (simp; done) | (simp; omega))])); rw [World.cell?_alloc_at _ _ _ _ (by simp)]; rfl); have c1 := kept_cell g1 (b := w.heap.size) (o := 1) (v := .int .i32 r) (by (repeat (first | rw [World.cell?_drew] | rw [World.cell?_alloc_past _ _ _ (by first | (simp; done) | (simp; omega))])); rw [World.cell?_alloc_at _ _ _ _ (by simp)]; rfl); have c2 := kept_cell g1 (b := w.heap.size) (o := 2) (v := .int .i32 ax) (by (repeat (first | rw [World.cell?_drew] | rw [World.cell?_alloc_past _ _ _ (by first | (simp; done) | (simp; omega))])); rw [World.cell?_alloc_at _ _ _ _ (by simp)]; rfl); have c3 := kept_cell g1 (b := w.heap.size) (o := 3) (v := .int .i32 ay) (by (repeat (first | rw [World.cell?_drew] | rw [World.cell?_alloc_past _ _ _ (by first | (simp; done) | (simp; omega))])); rw [World.cell?_alloc_at _ _ _ _ (by simp)]; rfl); have c4 := kept_cell g1 (b := w.heap.size) (o := 4) (v := .int .i32 m) (by (repeat (first | rw [World.cell?_drew] | rw [World.cell?_alloc_past _ _ _ (by first | (simp; done) | (simp; omega))])); rw [World.cell?_alloc_at _ _ _ _ (by simp)]; rfl); have c5 := kept_cell g1 (b := w.heap.size) (o := 5) (v := .int .i32 o) (by (repeat (first | rw [World.cell?_drew] | rw [World.cell?_alloc_past _ _ _ (by first | (simp; done) | (simp; omega))])); rw [World.cell?_alloc_at _ _ _ _ (by simp)]; rfl); have c6 := kept_cell g1 (b := w.heap.size) (o := 6) (v := .int .i32 px) (by (repeat (first | rw [World.cell?_drew] | rw [World.cell?_alloc_past _ _ _ (by first | (simp; done) | (simp; omega))])); rw [World.cell?_alloc_at _ _ _ _ (by simp)]; rfl); have c7 := kept_cell g1 (b := w.heap.size) (o := 7) (v := .int .i32 py) (by (repeat (first | rw [World.cell?_drew] | rw [World.cell?_alloc_past _ _ _ (by first | (simp; done) | (simp; omega))])); rw [World.cell?_alloc_at _ _ _ _ (by simp)]; rfl); have c8 := kept_cell g1 (b := w.heap.size) (o := 8) (v := .int .i32 vx) (by (repeat (first | rw [World.cell?_drew] | rw [World.cell?_alloc_past _ _ _ (by first | (simp; done) | (simp; omega))])); rw [World.cell?_alloc_at _ _ _ _ (by simp)]; rfl); have c9 := kept_cell g1 (b := w.heap.size) (o := 9) (v := .int .i32 vy) (by (repeat (first | rw [World.cell?_drew] | rw [World.cell?_alloc_past _ _ _ (by first | (simp; done) | (simp; omega))])); rw [World.cell?_alloc_at _ _ _ _ (by simp)]; rfl); have d0 := kept_cell g1 (b := w.heap.size + 1) (o := 0) (v := .int .i32 dx) (by (repeat (first | rw [World.cell?_drew] | rw [World.cell?_alloc_past _ _ _ (by first | (simp; done) | (simp; omega))])); rw [World.cell?_alloc_at _ _ _ _ (by simp)]; rfl); have d1 := kept_cell g1 (b := w.heap.size + 1) (o := 1) (v := .int .i32 dy) (by (repeat (first | rw [World.cell?_drew] | rw [World.cell?_alloc_past _ _ _ (by first | (simp; done) | (simp; omega))])); rw [World.cell?_alloc_at _ _ _ _ (by simp)]; rfl); have gg := grown_trans (((Grown.refl _).alloc _ _).alloc _ _) g1)))
    | ((with_reducible refine (C1.out _).mono ?_); rintro e w2 ⟨rfl, g2⟩
       replace c0 := kept_cell g2 (b := w.heap.size) (o := 0) (v := .int .u32 k) c0
       replace c1 := kept_cell g2 (b := w.heap.size) (o := 1) (v := .int .i32 r) c1
       replace c2 := kept_cell g2 (b := w.heap.size) (o := 2) (v := .int .i32 ax) c2
       replace c3 := kept_cell g2 (b := w.heap.size) (o := 3) (v := .int .i32 ay) c3
       replace c4 := kept_cell g2 (b := w.heap.size) (o := 4) (v := .int .i32 m) c4
       replace c5 := kept_cell g2 (b := w.heap.size) (o := 5) (v := .int .i32 o) c5
       replace c6 := kept_cell g2 (b := w.heap.size) (o := 6) (v := .int .i32 px) c6
       replace c7 := kept_cell g2 (b := w.heap.size) (o := 7) (v := .int .i32 py) c7
       replace c8 := kept_cell g2 (b := w.heap.size) (o := 8) (v := .int .i32 vx) c8
       replace c9 := kept_cell g2 (b := w.heap.size) (o := 9) (v := .int .i32 vy) c9
       replace d0 := kept_cell g2 (b := w.heap.size + 1) (o := 0) (v := .int .i32 dx) d0
       replace d1 := kept_cell g2 (b := w.heap.size + 1) (o := 1) (v := .int .i32 dy) d1
       replace gg := grown_trans gg g2
       have zc_w2 : w.heap.size < w2.heap.size := World.block_lt_of_cell? _ _ c0
       have zd_w2 : w.heap.size + 1 < w2.heap.size := World.block_lt_of_cell? _ _ d0)
    | ((with_reducible refine (D0.out _).mono ?_); rintro e w' ⟨rfl, rfl⟩)
    | ((with_reducible refine (D1.out _).mono ?_); rintro e w' ⟨rfl, rfl⟩))
  go_ret
  exact ⟨rfl, gg⟩
set_option maxRecDepth 100000 in
set_option maxHeartbeats 8000000 in
theorem bcl_main (k r ax ay m o px py vx vy dx dy a0 a1 a2 a3 b0 b1 b2 b3 x0 y0 x1 y1 cx cy : Int) (AW : Hid BAwake) (C1 : Hid (Rck k r ax ay m o px py vx vy 0)) (D0 : Hid (RIn dx 1000000000 true)) (D1 : Hid (RIn dy 1000000000 true)) (F1 : Hid (BOf k r ax ay m o px py vx vy a0 a1 a2 a3)) (P1 : Hid (Fst k r ax ay m o px py vx vy x0 y0)) (P2 : Hid (Snd k r ax ay m o px py vx vy x1 y1)) (K1 : Hid (BCo a0 a1 a2 a3 px py true)) (K2 : Hid (Aro a0 a1 a2 a3 x0 y0 r)) (K3 : Hid (Aro a0 a1 a2 a3 x1 y1 r)) (F2 : Hid (BOf k r ax ay m o cx cy vx vy b0 b1 b2 b3)) (h0 : wrap32 (px + dx) = cx) (h1 : wrap32 (py + dy) = cy) (h2 : wrap32 (a0 + dx) = b0) (h3 : wrap32 (a1 + dy) = b1) (h4 : wrap32 (a2 + dx) = b2) (h5 : wrap32 (a3 + dy) = b3) (w : World) :
    Calls Try.prog 4 #[.agg #[.int .u32 k, .int .i32 r, .int .i32 ax, .int .i32 ay, .int .i32 m, .int .i32 o, .int .i32 px, .int .i32 py, .int .i32 vx, .int .i32 vy], .agg #[.int .i32 dx, .int .i32 dy]] w fun e w' => e = .returned (.bool true) ∧ Grown w w' := by
  have qq := fun w => box_eql b0 b1 b2 b3 w
  have f0 := wr32b h0
  have f1 := wr32b h1
  have f2 := wr32b h2
  have f3 := wr32b h3
  have f4 := wr32b h4
  have f5 := wr32b h5
  clear h0 h1 h2 h3 h4 h5
  go_enter Try.func4, Try.ntmps4
  go_wp2_with (first
    | ((with_reducible refine (AW.out _).mono ?_); rintro e w1 ⟨rfl, g1⟩
       have c0 := kept_cell g1 (b := w.heap.size) (o := 0) (v := .int .u32 k) (by (repeat (first | rw [World.cell?_drew] | rw [World.cell?_alloc_past _ _ _ (by first | (simp; done) | (simp; omega))])); rw [World.cell?_alloc_at _ _ _ _ (by simp)]; rfl)
       have c1 := kept_cell g1 (b := w.heap.size) (o := 1) (v := .int .i32 r) (by (repeat (first | rw [World.cell?_drew] | rw [World.cell?_alloc_past _ _ _ (by first | (simp; done) | (simp; omega))])); rw [World.cell?_alloc_at _ _ _ _ (by simp)]; rfl)
       have c2 := kept_cell g1 (b := w.heap.size) (o := 2) (v := .int .i32 ax) (by (repeat (first | rw [World.cell?_drew] | rw [World.cell?_alloc_past _ _ _ (by first | (simp; done) | (simp; omega))])); rw [World.cell?_alloc_at _ _ _ _ (by simp)]; rfl)
       have c3 := kept_cell g1 (b := w.heap.size) (o := 3) (v := .int .i32 ay) (by (repeat (first | rw [World.cell?_drew] | rw [World.cell?_alloc_past _ _ _ (by first | (simp; done) | (simp; omega))])); rw [World.cell?_alloc_at _ _ _ _ (by simp)]; rfl)
       have c4 := kept_cell g1 (b := w.heap.size) (o := 4) (v := .int .i32 m) (by (repeat (first | rw [World.cell?_drew] | rw [World.cell?_alloc_past _ _ _ (by first | (simp; done) | (simp; omega))])); rw [World.cell?_alloc_at _ _ _ _ (by simp)]; rfl)
       have c5 := kept_cell g1 (b := w.heap.size) (o := 5) (v := .int .i32 o) (by (repeat (first | rw [World.cell?_drew] | rw [World.cell?_alloc_past _ _ _ (by first | (simp; done) | (simp; omega))])); rw [World.cell?_alloc_at _ _ _ _ (by simp)]; rfl)
       have c6 := kept_cell g1 (b := w.heap.size) (o := 6) (v := .int .i32 px) (by (repeat (first | rw [World.cell?_drew] | rw [World.cell?_alloc_past _ _ _ (by first | (simp; done) | (simp; omega))])); rw [World.cell?_alloc_at _ _ _ _ (by simp)]; rfl)
       have c7 := kept_cell g1 (b := w.heap.size) (o := 7) (v := .int .i32 py) (by (repeat (first | rw [World.cell?_drew] | rw [World.cell?_alloc_past _ _ _ (by first | (simp; done) | (simp; omega))])); rw [World.cell?_alloc_at _ _ _ _ (by simp)]; rfl)
       have c8 := kept_cell g1 (b := w.heap.size) (o := 8) (v := .int .i32 vx) (by (repeat (first | rw [World.cell?_drew] | rw [World.cell?_alloc_past _ _ _ (by first | (simp; done) | (simp; omega))])); rw [World.cell?_alloc_at _ _ _ _ (by simp)]; rfl)
       have c9 := kept_cell g1 (b := w.heap.size) (o := 9) (v := .int .i32 vy) (by (repeat (first | rw [World.cell?_drew] | rw [World.cell?_alloc_past _ _ _ (by first | (simp; done) | (simp; omega))])); rw [World.cell?_alloc_at _ _ _ _ (by simp)]; rfl)
       have d0 := kept_cell g1 (b := w.heap.size + 1) (o := 0) (v := .int .i32 dx) (by (repeat (first | rw [World.cell?_drew] | rw [World.cell?_alloc_past _ _ _ (by first | (simp; done) | (simp; omega))])); rw [World.cell?_alloc_at _ _ _ _ (by simp)]; rfl)
       have d1 := kept_cell g1 (b := w.heap.size + 1) (o := 1) (v := .int .i32 dy) (by (repeat (first | rw [World.cell?_drew] | rw [World.cell?_alloc_past _ _ _ (by first | (simp; done) | (simp; omega))])); rw [World.cell?_alloc_at _ _ _ _ (by simp)]; rfl)
       have gg := grown_trans (((Grown.refl _).alloc _ _).alloc _ _) g1
       have zc_w1 : w.heap.size < w1.heap.size := World.block_lt_of_cell? _ _ c0
       have zd_w1 : w.heap.size + 1 < w1.heap.size := World.block_lt_of_cell? _ _ d0)
    | ((with_reducible refine (C1.out _).mono ?_); rintro e w2 ⟨rfl, g2⟩
       replace c0 := kept_cell g2 (b := w.heap.size) (o := 0) (v := .int .u32 k) c0
       replace c1 := kept_cell g2 (b := w.heap.size) (o := 1) (v := .int .i32 r) c1
       replace c2 := kept_cell g2 (b := w.heap.size) (o := 2) (v := .int .i32 ax) c2
       replace c3 := kept_cell g2 (b := w.heap.size) (o := 3) (v := .int .i32 ay) c3
       replace c4 := kept_cell g2 (b := w.heap.size) (o := 4) (v := .int .i32 m) c4
       replace c5 := kept_cell g2 (b := w.heap.size) (o := 5) (v := .int .i32 o) c5
       replace c6 := kept_cell g2 (b := w.heap.size) (o := 6) (v := .int .i32 px) c6
       replace c7 := kept_cell g2 (b := w.heap.size) (o := 7) (v := .int .i32 py) c7
       replace c8 := kept_cell g2 (b := w.heap.size) (o := 8) (v := .int .i32 vx) c8
       replace c9 := kept_cell g2 (b := w.heap.size) (o := 9) (v := .int .i32 vy) c9
       replace d0 := kept_cell g2 (b := w.heap.size + 1) (o := 0) (v := .int .i32 dx) d0
       replace d1 := kept_cell g2 (b := w.heap.size + 1) (o := 1) (v := .int .i32 dy) d1
       replace gg := grown_trans gg g2
       have zc_w2 : w.heap.size < w2.heap.size := World.block_lt_of_cell? _ _ c0
       have zd_w2 : w.heap.size + 1 < w2.heap.size := World.block_lt_of_cell? _ _ d0)
    | ((with_reducible refine (D0.out _).mono ?_); rintro e w' ⟨rfl, rfl⟩)
    | ((with_reducible refine (D1.out _).mono ?_); rintro e w' ⟨rfl, rfl⟩)
    | ((with_reducible refine (F1.out _).mono ?_); rintro e w3 ⟨rfl, g3⟩
       replace c0 := kept_cell g3 (b := w.heap.size) (o := 0) (v := .int .u32 k) c0
       replace c1 := kept_cell g3 (b := w.heap.size) (o := 1) (v := .int .i32 r) c1
       replace c2 := kept_cell g3 (b := w.heap.size) (o := 2) (v := .int .i32 ax) c2
       replace c3 := kept_cell g3 (b := w.heap.size) (o := 3) (v := .int .i32 ay) c3
       replace c4 := kept_cell g3 (b := w.heap.size) (o := 4) (v := .int .i32 m) c4
       replace c5 := kept_cell g3 (b := w.heap.size) (o := 5) (v := .int .i32 o) c5
       replace c6 := kept_cell g3 (b := w.heap.size) (o := 6) (v := .int .i32 px) c6
       replace c7 := kept_cell g3 (b := w.heap.size) (o := 7) (v := .int .i32 py) c7
       replace c8 := kept_cell g3 (b := w.heap.size) (o := 8) (v := .int .i32 vx) c8
       replace c9 := kept_cell g3 (b := w.heap.size) (o := 9) (v := .int .i32 vy) c9
       replace d0 := kept_cell g3 (b := w.heap.size + 1) (o := 0) (v := .int .i32 dx) d0
       replace d1 := kept_cell g3 (b := w.heap.size + 1) (o := 1) (v := .int .i32 dy) d1
       replace gg := grown_trans gg g3
       have zc_w3 : w.heap.size < w3.heap.size := World.block_lt_of_cell? _ _ c0
       have zd_w3 : w.heap.size + 1 < w3.heap.size := World.block_lt_of_cell? _ _ d0)
    | ((with_reducible refine (P1.out _).mono ?_); rintro e w4 ⟨rfl, g4⟩
       replace c0 := kept_cell g4 (b := w.heap.size) (o := 0) (v := .int .u32 k) (alloc_one c0)
       replace c1 := kept_cell g4 (b := w.heap.size) (o := 1) (v := .int .i32 r) (alloc_one c1)
       replace c2 := kept_cell g4 (b := w.heap.size) (o := 2) (v := .int .i32 ax) (alloc_one c2)
       replace c3 := kept_cell g4 (b := w.heap.size) (o := 3) (v := .int .i32 ay) (alloc_one c3)
       replace c4 := kept_cell g4 (b := w.heap.size) (o := 4) (v := .int .i32 m) (alloc_one c4)
       replace c5 := kept_cell g4 (b := w.heap.size) (o := 5) (v := .int .i32 o) (alloc_one c5)
       replace c6 := kept_cell g4 (b := w.heap.size) (o := 6) (v := .int .i32 px) (alloc_one c6)
       replace c7 := kept_cell g4 (b := w.heap.size) (o := 7) (v := .int .i32 py) (alloc_one c7)
       replace c8 := kept_cell g4 (b := w.heap.size) (o := 8) (v := .int .i32 vx) (alloc_one c8)
       replace c9 := kept_cell g4 (b := w.heap.size) (o := 9) (v := .int .i32 vy) (alloc_one c9)
       replace d0 := kept_cell g4 (b := w.heap.size + 1) (o := 0) (v := .int .i32 dx) (alloc_one d0)
       replace d1 := kept_cell g4 (b := w.heap.size + 1) (o := 1) (v := .int .i32 dy) (alloc_one d1)
       have u0 := kept_cell g4 (b := w3.heap.size) (o := 0) (v := .int .i32 a0) (by (repeat (first | rw [World.cell?_drew] | rw [World.cell?_alloc_past _ _ _ (by first | (simp; done) | (simp; omega))])); rw [World.cell?_alloc_at _ _ _ _ (by simp)]; rfl)
       have u1 := kept_cell g4 (b := w3.heap.size) (o := 1) (v := .int .i32 a1) (by (repeat (first | rw [World.cell?_drew] | rw [World.cell?_alloc_past _ _ _ (by first | (simp; done) | (simp; omega))])); rw [World.cell?_alloc_at _ _ _ _ (by simp)]; rfl)
       have u2 := kept_cell g4 (b := w3.heap.size) (o := 2) (v := .int .i32 a2) (by (repeat (first | rw [World.cell?_drew] | rw [World.cell?_alloc_past _ _ _ (by first | (simp; done) | (simp; omega))])); rw [World.cell?_alloc_at _ _ _ _ (by simp)]; rfl)
       have u3 := kept_cell g4 (b := w3.heap.size) (o := 3) (v := .int .i32 a3) (by (repeat (first | rw [World.cell?_drew] | rw [World.cell?_alloc_past _ _ _ (by first | (simp; done) | (simp; omega))])); rw [World.cell?_alloc_at _ _ _ _ (by simp)]; rfl)
       replace gg := grown_trans (gg.alloc _ _) g4
       have zc_w4 : w.heap.size < w4.heap.size := World.block_lt_of_cell? _ _ c0
       have zd_w4 : w.heap.size + 1 < w4.heap.size := World.block_lt_of_cell? _ _ d0
       have zu_w4 : w3.heap.size < w4.heap.size := World.block_lt_of_cell? _ _ u0)
    | ((with_reducible refine (P2.out _).mono ?_); rintro e w5 ⟨rfl, g5⟩
       replace c0 := kept_cell g5 (b := w.heap.size) (o := 0) (v := .int .u32 k) (alloc_one c0)
       replace c1 := kept_cell g5 (b := w.heap.size) (o := 1) (v := .int .i32 r) (alloc_one c1)
       replace c2 := kept_cell g5 (b := w.heap.size) (o := 2) (v := .int .i32 ax) (alloc_one c2)
       replace c3 := kept_cell g5 (b := w.heap.size) (o := 3) (v := .int .i32 ay) (alloc_one c3)
       replace c4 := kept_cell g5 (b := w.heap.size) (o := 4) (v := .int .i32 m) (alloc_one c4)
       replace c5 := kept_cell g5 (b := w.heap.size) (o := 5) (v := .int .i32 o) (alloc_one c5)
       replace c6 := kept_cell g5 (b := w.heap.size) (o := 6) (v := .int .i32 px) (alloc_one c6)
       replace c7 := kept_cell g5 (b := w.heap.size) (o := 7) (v := .int .i32 py) (alloc_one c7)
       replace c8 := kept_cell g5 (b := w.heap.size) (o := 8) (v := .int .i32 vx) (alloc_one c8)
       replace c9 := kept_cell g5 (b := w.heap.size) (o := 9) (v := .int .i32 vy) (alloc_one c9)
       replace d0 := kept_cell g5 (b := w.heap.size + 1) (o := 0) (v := .int .i32 dx) (alloc_one d0)
       replace d1 := kept_cell g5 (b := w.heap.size + 1) (o := 1) (v := .int .i32 dy) (alloc_one d1)
       replace u0 := kept_cell g5 (b := w3.heap.size) (o := 0) (v := .int .i32 a0) (alloc_one u0)
       replace u1 := kept_cell g5 (b := w3.heap.size) (o := 1) (v := .int .i32 a1) (alloc_one u1)
       replace u2 := kept_cell g5 (b := w3.heap.size) (o := 2) (v := .int .i32 a2) (alloc_one u2)
       replace u3 := kept_cell g5 (b := w3.heap.size) (o := 3) (v := .int .i32 a3) (alloc_one u3)
       have i0 := kept_cell g5 (b := w4.heap.size) (o := 0) (v := .int .i32 x0) (by (repeat (first | rw [World.cell?_drew] | rw [World.cell?_alloc_past _ _ _ (by first | (simp; done) | (simp; omega))])); rw [World.cell?_alloc_at _ _ _ _ (by simp)]; rfl)
       have i1 := kept_cell g5 (b := w4.heap.size) (o := 1) (v := .int .i32 y0) (by (repeat (first | rw [World.cell?_drew] | rw [World.cell?_alloc_past _ _ _ (by first | (simp; done) | (simp; omega))])); rw [World.cell?_alloc_at _ _ _ _ (by simp)]; rfl)
       replace gg := grown_trans (gg.alloc _ _) g5
       have zc_w5 : w.heap.size < w5.heap.size := World.block_lt_of_cell? _ _ c0
       have zd_w5 : w.heap.size + 1 < w5.heap.size := World.block_lt_of_cell? _ _ d0
       have zu_w5 : w3.heap.size < w5.heap.size := World.block_lt_of_cell? _ _ u0
       have zi_w5 : w4.heap.size < w5.heap.size := World.block_lt_of_cell? _ _ i0)
    | ((with_reducible refine (K1.out _).mono ?_); rintro e w6 ⟨rfl, g6⟩
       replace c0 := kept_cell g6 (b := w.heap.size) (o := 0) (v := .int .u32 k) (alloc_one c0)
       replace c1 := kept_cell g6 (b := w.heap.size) (o := 1) (v := .int .i32 r) (alloc_one c1)
       replace c2 := kept_cell g6 (b := w.heap.size) (o := 2) (v := .int .i32 ax) (alloc_one c2)
       replace c3 := kept_cell g6 (b := w.heap.size) (o := 3) (v := .int .i32 ay) (alloc_one c3)
       replace c4 := kept_cell g6 (b := w.heap.size) (o := 4) (v := .int .i32 m) (alloc_one c4)
       replace c5 := kept_cell g6 (b := w.heap.size) (o := 5) (v := .int .i32 o) (alloc_one c5)
       replace c6 := kept_cell g6 (b := w.heap.size) (o := 6) (v := .int .i32 px) (alloc_one c6)
       replace c7 := kept_cell g6 (b := w.heap.size) (o := 7) (v := .int .i32 py) (alloc_one c7)
       replace c8 := kept_cell g6 (b := w.heap.size) (o := 8) (v := .int .i32 vx) (alloc_one c8)
       replace c9 := kept_cell g6 (b := w.heap.size) (o := 9) (v := .int .i32 vy) (alloc_one c9)
       replace d0 := kept_cell g6 (b := w.heap.size + 1) (o := 0) (v := .int .i32 dx) (alloc_one d0)
       replace d1 := kept_cell g6 (b := w.heap.size + 1) (o := 1) (v := .int .i32 dy) (alloc_one d1)
       replace u0 := kept_cell g6 (b := w3.heap.size) (o := 0) (v := .int .i32 a0) (alloc_one u0)
       replace u1 := kept_cell g6 (b := w3.heap.size) (o := 1) (v := .int .i32 a1) (alloc_one u1)
       replace u2 := kept_cell g6 (b := w3.heap.size) (o := 2) (v := .int .i32 a2) (alloc_one u2)
       replace u3 := kept_cell g6 (b := w3.heap.size) (o := 3) (v := .int .i32 a3) (alloc_one u3)
       replace i0 := kept_cell g6 (b := w4.heap.size) (o := 0) (v := .int .i32 x0) (alloc_one i0)
       replace i1 := kept_cell g6 (b := w4.heap.size) (o := 1) (v := .int .i32 y0) (alloc_one i1)
       have j0 := kept_cell g6 (b := w5.heap.size) (o := 0) (v := .int .i32 x1) (by (repeat (first | rw [World.cell?_drew] | rw [World.cell?_alloc_past _ _ _ (by first | (simp; done) | (simp; omega))])); rw [World.cell?_alloc_at _ _ _ _ (by simp)]; rfl)
       have j1 := kept_cell g6 (b := w5.heap.size) (o := 1) (v := .int .i32 y1) (by (repeat (first | rw [World.cell?_drew] | rw [World.cell?_alloc_past _ _ _ (by first | (simp; done) | (simp; omega))])); rw [World.cell?_alloc_at _ _ _ _ (by simp)]; rfl)
       replace gg := grown_trans (gg.alloc _ _) g6
       have zc_w6 : w.heap.size < w6.heap.size := World.block_lt_of_cell? _ _ c0
       have zd_w6 : w.heap.size + 1 < w6.heap.size := World.block_lt_of_cell? _ _ d0
       have zu_w6 : w3.heap.size < w6.heap.size := World.block_lt_of_cell? _ _ u0
       have zi_w6 : w4.heap.size < w6.heap.size := World.block_lt_of_cell? _ _ i0
       have zj_w6 : w5.heap.size < w6.heap.size := World.block_lt_of_cell? _ _ j0)
    | ((with_reducible refine (K2.out _).mono ?_); rintro e w7 ⟨rfl, g7⟩
       replace c0 := kept_cell g7 (b := w.heap.size) (o := 0) (v := .int .u32 k) c0
       replace c1 := kept_cell g7 (b := w.heap.size) (o := 1) (v := .int .i32 r) c1
       replace c2 := kept_cell g7 (b := w.heap.size) (o := 2) (v := .int .i32 ax) c2
       replace c3 := kept_cell g7 (b := w.heap.size) (o := 3) (v := .int .i32 ay) c3
       replace c4 := kept_cell g7 (b := w.heap.size) (o := 4) (v := .int .i32 m) c4
       replace c5 := kept_cell g7 (b := w.heap.size) (o := 5) (v := .int .i32 o) c5
       replace c6 := kept_cell g7 (b := w.heap.size) (o := 6) (v := .int .i32 px) c6
       replace c7 := kept_cell g7 (b := w.heap.size) (o := 7) (v := .int .i32 py) c7
       replace c8 := kept_cell g7 (b := w.heap.size) (o := 8) (v := .int .i32 vx) c8
       replace c9 := kept_cell g7 (b := w.heap.size) (o := 9) (v := .int .i32 vy) c9
       replace d0 := kept_cell g7 (b := w.heap.size + 1) (o := 0) (v := .int .i32 dx) d0
       replace d1 := kept_cell g7 (b := w.heap.size + 1) (o := 1) (v := .int .i32 dy) d1
       replace u0 := kept_cell g7 (b := w3.heap.size) (o := 0) (v := .int .i32 a0) u0
       replace u1 := kept_cell g7 (b := w3.heap.size) (o := 1) (v := .int .i32 a1) u1
       replace u2 := kept_cell g7 (b := w3.heap.size) (o := 2) (v := .int .i32 a2) u2
       replace u3 := kept_cell g7 (b := w3.heap.size) (o := 3) (v := .int .i32 a3) u3
       replace i0 := kept_cell g7 (b := w4.heap.size) (o := 0) (v := .int .i32 x0) i0
       replace i1 := kept_cell g7 (b := w4.heap.size) (o := 1) (v := .int .i32 y0) i1
       replace j0 := kept_cell g7 (b := w5.heap.size) (o := 0) (v := .int .i32 x1) j0
       replace j1 := kept_cell g7 (b := w5.heap.size) (o := 1) (v := .int .i32 y1) j1
       replace gg := grown_trans gg g7
       have zc_w7 : w.heap.size < w7.heap.size := World.block_lt_of_cell? _ _ c0
       have zd_w7 : w.heap.size + 1 < w7.heap.size := World.block_lt_of_cell? _ _ d0
       have zu_w7 : w3.heap.size < w7.heap.size := World.block_lt_of_cell? _ _ u0
       have zi_w7 : w4.heap.size < w7.heap.size := World.block_lt_of_cell? _ _ i0
       have zj_w7 : w5.heap.size < w7.heap.size := World.block_lt_of_cell? _ _ j0)
    | ((with_reducible refine (K3.out _).mono ?_); rintro e w8 ⟨rfl, g8⟩
       replace c0 := kept_cell g8 (b := w.heap.size) (o := 0) (v := .int .u32 k) c0
       replace c1 := kept_cell g8 (b := w.heap.size) (o := 1) (v := .int .i32 r) c1
       replace c2 := kept_cell g8 (b := w.heap.size) (o := 2) (v := .int .i32 ax) c2
       replace c3 := kept_cell g8 (b := w.heap.size) (o := 3) (v := .int .i32 ay) c3
       replace c4 := kept_cell g8 (b := w.heap.size) (o := 4) (v := .int .i32 m) c4
       replace c5 := kept_cell g8 (b := w.heap.size) (o := 5) (v := .int .i32 o) c5
       replace c6 := kept_cell g8 (b := w.heap.size) (o := 6) (v := .int .i32 px) c6
       replace c7 := kept_cell g8 (b := w.heap.size) (o := 7) (v := .int .i32 py) c7
       replace c8 := kept_cell g8 (b := w.heap.size) (o := 8) (v := .int .i32 vx) c8
       replace c9 := kept_cell g8 (b := w.heap.size) (o := 9) (v := .int .i32 vy) c9
       replace d0 := kept_cell g8 (b := w.heap.size + 1) (o := 0) (v := .int .i32 dx) d0
       replace d1 := kept_cell g8 (b := w.heap.size + 1) (o := 1) (v := .int .i32 dy) d1
       replace u0 := kept_cell g8 (b := w3.heap.size) (o := 0) (v := .int .i32 a0) u0
       replace u1 := kept_cell g8 (b := w3.heap.size) (o := 1) (v := .int .i32 a1) u1
       replace u2 := kept_cell g8 (b := w3.heap.size) (o := 2) (v := .int .i32 a2) u2
       replace u3 := kept_cell g8 (b := w3.heap.size) (o := 3) (v := .int .i32 a3) u3
       replace i0 := kept_cell g8 (b := w4.heap.size) (o := 0) (v := .int .i32 x0) i0
       replace i1 := kept_cell g8 (b := w4.heap.size) (o := 1) (v := .int .i32 y0) i1
       replace j0 := kept_cell g8 (b := w5.heap.size) (o := 0) (v := .int .i32 x1) j0
       replace j1 := kept_cell g8 (b := w5.heap.size) (o := 1) (v := .int .i32 y1) j1
       replace gg := grown_trans gg g8
       have zc_w8 : w.heap.size < w8.heap.size := World.block_lt_of_cell? _ _ c0
       have zd_w8 : w.heap.size + 1 < w8.heap.size := World.block_lt_of_cell? _ _ d0
       have zu_w8 : w3.heap.size < w8.heap.size := World.block_lt_of_cell? _ _ u0
       have zi_w8 : w4.heap.size < w8.heap.size := World.block_lt_of_cell? _ _ i0
       have zj_w8 : w5.heap.size < w8.heap.size := World.block_lt_of_cell? _ _ j0))
  go_region_held3 (fun w' => w'.cell? ⟨w.heap.size, 0, none⟩ = some (.int .u32 k) ∧ w'.cell? ⟨w.heap.size, 1, none⟩ = some (.int .i32 r) ∧ w'.cell? ⟨w.heap.size, 2, none⟩ = some (.int .i32 ax) ∧ w'.cell? ⟨w.heap.size, 3, none⟩ = some (.int .i32 ay) ∧ w'.cell? ⟨w.heap.size, 4, none⟩ = some (.int .i32 m) ∧ w'.cell? ⟨w.heap.size, 5, none⟩ = some (.int .i32 o) ∧ w'.cell? ⟨w.heap.size, 6, none⟩ = some (.int .i32 px) ∧ w'.cell? ⟨w.heap.size, 7, none⟩ = some (.int .i32 py) ∧ w'.cell? ⟨w.heap.size, 8, none⟩ = some (.int .i32 vx) ∧ w'.cell? ⟨w.heap.size, 9, none⟩ = some (.int .i32 vy) ∧ w'.cell? ⟨w.heap.size + 1, 0, none⟩ = some (.int .i32 dx) ∧ w'.cell? ⟨w.heap.size + 1, 1, none⟩ = some (.int .i32 dy) ∧ w'.cell? ⟨w3.heap.size, 0, none⟩ = some (.int .i32 a0) ∧ w'.cell? ⟨w3.heap.size, 1, none⟩ = some (.int .i32 a1) ∧ w'.cell? ⟨w3.heap.size, 2, none⟩ = some (.int .i32 a2) ∧ w'.cell? ⟨w3.heap.size, 3, none⟩ = some (.int .i32 a3) ∧ w'.cell? ⟨w4.heap.size, 0, none⟩ = some (.int .i32 x0) ∧ w'.cell? ⟨w4.heap.size, 1, none⟩ = some (.int .i32 y0) ∧ w'.cell? ⟨w5.heap.size, 0, none⟩ = some (.int .i32 x1) ∧ w'.cell? ⟨w5.heap.size, 1, none⟩ = some (.int .i32 y1) ∧ w'.cell? ⟨w8.heap.size, 0, none⟩ = some (.int .u32 k) ∧ w'.cell? ⟨w8.heap.size, 1, none⟩ = some (.int .i32 r) ∧ w'.cell? ⟨w8.heap.size, 2, none⟩ = some (.int .i32 ax) ∧ w'.cell? ⟨w8.heap.size, 3, none⟩ = some (.int .i32 ay) ∧ w'.cell? ⟨w8.heap.size, 4, none⟩ = some (.int .i32 m) ∧ w'.cell? ⟨w8.heap.size, 5, none⟩ = some (.int .i32 o) ∧ w'.cell? ⟨w8.heap.size, 6, none⟩ = some (.int .i32 cx) ∧ w'.cell? ⟨w8.heap.size, 7, none⟩ = some (.int .i32 cy) ∧ w'.cell? ⟨w8.heap.size, 8, none⟩ = some (.int .i32 vx) ∧ w'.cell? ⟨w8.heap.size, 9, none⟩ = some (.int .i32 vy) ∧ Grown w w')
    (first
      | (with_reducible assumption)
      | exact ⟨by rw [World.cell?_drew]; exact (alloc_one c0), by rw [World.cell?_drew]; exact (alloc_one c1), by rw [World.cell?_drew]; exact (alloc_one c2), by rw [World.cell?_drew]; exact (alloc_one c3), by rw [World.cell?_drew]; exact (alloc_one c4), by rw [World.cell?_drew]; exact (alloc_one c5), by rw [World.cell?_drew]; exact (alloc_one c6), by rw [World.cell?_drew]; exact (alloc_one c7), by rw [World.cell?_drew]; exact (alloc_one c8), by rw [World.cell?_drew]; exact (alloc_one c9), by rw [World.cell?_drew]; exact (alloc_one d0), by rw [World.cell?_drew]; exact (alloc_one d1), by rw [World.cell?_drew]; exact (alloc_one u0), by rw [World.cell?_drew]; exact (alloc_one u1), by rw [World.cell?_drew]; exact (alloc_one u2), by rw [World.cell?_drew]; exact (alloc_one u3), by rw [World.cell?_drew]; exact (alloc_one i0), by rw [World.cell?_drew]; exact (alloc_one i1), by rw [World.cell?_drew]; exact (alloc_one j0), by rw [World.cell?_drew]; exact (alloc_one j1), by (repeat (first | rw [World.cell?_drew] | rw [World.cell?_alloc_past _ _ _ (by first | (simp; done) | (simp; omega))])); rw [World.cell?_alloc_at _ _ _ _ (by simp)]; rfl, by (repeat (first | rw [World.cell?_drew] | rw [World.cell?_alloc_past _ _ _ (by first | (simp; done) | (simp; omega))])); rw [World.cell?_alloc_at _ _ _ _ (by simp)]; rfl, by (repeat (first | rw [World.cell?_drew] | rw [World.cell?_alloc_past _ _ _ (by first | (simp; done) | (simp; omega))])); rw [World.cell?_alloc_at _ _ _ _ (by simp)]; rfl, by (repeat (first | rw [World.cell?_drew] | rw [World.cell?_alloc_past _ _ _ (by first | (simp; done) | (simp; omega))])); rw [World.cell?_alloc_at _ _ _ _ (by simp)]; rfl, by (repeat (first | rw [World.cell?_drew] | rw [World.cell?_alloc_past _ _ _ (by first | (simp; done) | (simp; omega))])); rw [World.cell?_alloc_at _ _ _ _ (by simp)]; rfl, by (repeat (first | rw [World.cell?_drew] | rw [World.cell?_alloc_past _ _ _ (by first | (simp; done) | (simp; omega))])); rw [World.cell?_alloc_at _ _ _ _ (by simp)]; rfl, by (repeat (first | rw [World.cell?_drew] | rw [World.cell?_alloc_past _ _ _ (by first | (simp; done) | (simp; omega))])); rw [World.cell?_alloc_at _ _ _ _ (by simp)]; rfl, by (repeat (first | rw [World.cell?_drew] | rw [World.cell?_alloc_past _ _ _ (by first | (simp; done) | (simp; omega))])); rw [World.cell?_alloc_at _ _ _ _ (by simp)]; rfl, by (repeat (first | rw [World.cell?_drew] | rw [World.cell?_alloc_past _ _ _ (by first | (simp; done) | (simp; omega))])); rw [World.cell?_alloc_at _ _ _ _ (by simp)]; rfl, by (repeat (first | rw [World.cell?_drew] | rw [World.cell?_alloc_past _ _ _ (by first | (simp; done) | (simp; omega))])); rw [World.cell?_alloc_at _ _ _ _ (by simp)]; rfl, (gg.alloc _ _).drew⟩
      | (go_split_ands; exact ⟨kept_cell g (by assumption), kept_cell g (by assumption), kept_cell g (by assumption), kept_cell g (by assumption), kept_cell g (by assumption), kept_cell g (by assumption), kept_cell g (by assumption), kept_cell g (by assumption), kept_cell g (by assumption), kept_cell g (by assumption), kept_cell g (by assumption), kept_cell g (by assumption), kept_cell g (by assumption), kept_cell g (by assumption), kept_cell g (by assumption), kept_cell g (by assumption), kept_cell g (by assumption), kept_cell g (by assumption), kept_cell g (by assumption), kept_cell g (by assumption), kept_cell g (by assumption), kept_cell g (by assumption), kept_cell g (by assumption), kept_cell g (by assumption), kept_cell g (by assumption), kept_cell g (by assumption), kept_cell g (by assumption), kept_cell g (by assumption), kept_cell g (by assumption), kept_cell g (by assumption), grown_trans (by assumption) g⟩)
      | (go_split_ands; exact ⟨by rw [World.cell?_drew]; assumption, by rw [World.cell?_drew]; assumption, by rw [World.cell?_drew]; assumption, by rw [World.cell?_drew]; assumption, by rw [World.cell?_drew]; assumption, by rw [World.cell?_drew]; assumption, by rw [World.cell?_drew]; assumption, by rw [World.cell?_drew]; assumption, by rw [World.cell?_drew]; assumption, by rw [World.cell?_drew]; assumption, by rw [World.cell?_drew]; assumption, by rw [World.cell?_drew]; assumption, by rw [World.cell?_drew]; assumption, by rw [World.cell?_drew]; assumption, by rw [World.cell?_drew]; assumption, by rw [World.cell?_drew]; assumption, by rw [World.cell?_drew]; assumption, by rw [World.cell?_drew]; assumption, by rw [World.cell?_drew]; assumption, by rw [World.cell?_drew]; assumption, by rw [World.cell?_drew]; assumption, by rw [World.cell?_drew]; assumption, by rw [World.cell?_drew]; assumption, by rw [World.cell?_drew]; assumption, by rw [World.cell?_drew]; assumption, by rw [World.cell?_drew]; assumption, by rw [World.cell?_drew]; assumption, by rw [World.cell?_drew]; assumption, by rw [World.cell?_drew]; assumption, by rw [World.cell?_drew]; assumption, Grown.drew (by assumption)⟩))
    (first
    | ((with_reducible refine (F2.out _).mono ?_); rintro e w' ⟨rfl, g⟩))
  go_wp2_with fail
  go_ret
  exact ⟨rfl, by go_split_ands; assumption⟩
/-- The law BoxContains. -/
theorem bcl_all (AW : BAwake) (O : BOps) (k r ax ay m o px py vx vy dx dy : Int) (hdx : -2147483648 ≤ dx ∧ dx < 2147483648) (hdy : -2147483648 ≤ dy ∧ dy < 2147483648) (w : World) : Calls Try.prog 4 #[.agg #[.int .u32 k, .int .i32 r, .int .i32 ax, .int .i32 ay, .int .i32 m, .int .i32 o, .int .i32 px, .int .i32 py, .int .i32 vx, .int .i32 vy], .agg #[.int .i32 dx, .int .i32 dy]] w fun e w' => e = .returned (.bool true) ∧ Grown w w' := by
  by_cases e1 : chk r ax ay m o px py vx vy = 0
  rotate_left
  · exact bcl_bad k r ax ay m o px py vx vy dx dy _ (Lib.hid AW) (Lib.hid (rck k r ax ay m o px py vx vy _ rfl)) (bne_iff_ne.2 e1) w
  have C1 := Lib.hid (rck k r ax ay m o px py vx vy _ e1)
  by_cases e2 : -1000000000 ≤ dx ∧ dx ≤ 1000000000
  rotate_left
  · exact bcl_out0 k r ax ay m o px py vx vy dx dy _ (Lib.hid AW) C1 (by rfl) (Lib.hid (rin (by omega) (by omega) (decide_eq_false e2))) w
  have D0 := Lib.hid (rin (n := dx) (l := 1000000000) (by omega) (by omega) (decide_eq_true e2))
  by_cases e3 : -1000000000 ≤ dy ∧ dy ≤ 1000000000
  rotate_left
  · exact bcl_out1 k r ax ay m o px py vx vy dx dy _ (Lib.hid AW) C1 (by rfl) D0 (Lib.hid (rin (by omega) (by omega) (decide_eq_false e3))) w
  have D1 := Lib.hid (rin (n := dy) (l := 1000000000) (by omega) (by omega) (decide_eq_true e3))
  obtain ⟨v1, ⟨v2, v3⟩, v4, v5⟩ := chk_in e1
  obtain ⟨x, hx⟩ : ∃ x, max ax (-ax) + r = x := ⟨_, rfl⟩
  obtain ⟨y, hy⟩ : ∃ y, max ay (-ay) + r = y := ⟨_, rfl⟩
  have K1 : BCo (px - x) (py - y) (px + x) (py + y) px py true := by
    have := O.contains (px - x) (py - y) (px + x) (py + y) px py
    rw [show conB (px - x) (py - y) (px + x) (py + y) px py = true from decide_eq_true ⟨by omega, by omega, by omega, by omega⟩] at this
    exact this
  refine bcl_main k r ax ay m o px py vx vy dx dy _ _ _ _ (px + dx - x) (py + dy - y) (px + dx + x) (py + dy + y) (px - ax) (py - ay) (px + ax) (py + ay) (px + dx) (py + dy) (Lib.hid AW) C1 D0 D1 (Lib.hid (O.of k r ax ay m o px py vx vy x y v2 v3 v1 hx hy (by omega) (by omega))) (Lib.hid (fst _ _ _ _ _ _ _ _ _ _ _ _ (by unfold wrap32; omega) (by unfold wrap32; omega))) (Lib.hid (snd _ _ _ _ _ _ _ _ _ _ _ _ (by unfold wrap32; omega) (by unfold wrap32; omega))) (Lib.hid K1) (Lib.hid (aro_of O _ _ _ _ _ _ _ (by omega) (by omega) (by omega) (by omega) (by omega) (by omega) (by omega) (by omega) (by omega))) (Lib.hid (aro_of O _ _ _ _ _ _ _ (by omega) (by omega) (by omega) (by omega) (by omega) (by omega) (by omega) (by omega) (by omega))) (Lib.hid (O.of _ _ _ _ _ _ _ _ _ _ x y v2 v3 v1 hx hy (by omega) (by omega))) ?_ ?_ ?_ ?_ ?_ ?_ w
  all_goals (unfold wrap32; omega)
end Go.Proofs.Ytpbajmgjnpkgkaa
