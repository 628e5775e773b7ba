/-
  Package body: the walk of the law BodyEnds.
-/
import Derived.Test.YtjbhgjaklmpkjaaBodyLaws
import Derived.Test.YtjbhgjaklmpkjaaBodyRef
namespace Go.Proofs.Ytjbhgjaklmpkjaa
open Go.RowKit Go.Lib

set_option maxRecDepth 100000 in
set_option maxHeartbeats 2000000 in
theorem ends_bad (k r ax ay m o px py vx vy dx dy e : Int) (A : Hid BodyAwake) (Ck : Hid (Rck k r ax ay m o px py vx vy e)) (he : (e != 0) = true) (w : World) :
    Calls Try.prog 5 #[.agg #[.int .u32 k, .int .i32 r, .int .i32 ax, .int .i32 ay, .int .i32 m, .int .i32 o, .int .i32 px, .int .i32 py, .int .i32 vx, .int .i32 vy], .agg #[.int .i32 dx, .int .i32 dy]] w fun e w' => e = .returned (.bool true) ∧ Grown w w' := by
  go_enter Try.func5, Try.ntmps5
  go_wp2_with (first
    | ((with_reducible refine (A.out _).mono ?_); rintro e w1 ⟨rfl, g1⟩
       (first | (replace gg := grown_trans gg g1) | (have b0 := kept_cell g1 (b := w.heap.size) (o := 0) (v := .int .u32 k) (by (repeat (first | rw [World.cell?_drew] | rw [World.cell?_alloc_past _ _ _ (by first | (simp; done) | (simp; omega))])); rw [World.cell?_alloc_at _ _ _ _ (by simp)]; rfl); have b1 := kept_cell g1 (b := w.heap.size) (o := 1) (v := .int .i32 r) (by (repeat (first | rw [World.cell?_drew] | rw [World.cell?_alloc_past _ _ _ (by first | (simp; done) | (simp; omega))])); rw [World.cell?_alloc_at _ _ _ _ (by simp)]; rfl); have b2 := kept_cell g1 (b := w.heap.size) (o := 2) (v := .int .i32 ax) (by (repeat (first | rw [World.cell?_drew] | rw [World.cell?_alloc_past _ _ _ (by first | (simp; done) | (simp; omega))])); rw [World.cell?_alloc_at _ _ _ _ (by simp)]; rfl); have b3 := kept_cell g1 (b := w.heap.size) (o := 3) (v := .int .i32 ay) (by (repeat (first | rw [World.cell?_drew] | rw [World.cell?_alloc_past _ _ _ (by first | (simp; done) | (simp; omega))])); rw [World.cell?_alloc_at _ _ _ _ (by simp)]; rfl); have b4 := kept_cell g1 (b := w.heap.size) (o := 4) (v := .int .i32 m) (by (repeat (first | rw [World.cell?_drew] | rw [World.cell?_alloc_past _ _ _ (by first | (simp; done) | (simp; omega))])); rw [World.cell?_alloc_at _ _ _ _ (by simp)]; rfl); have b5 := kept_cell g1 (b := w.heap.size) (o := 5) (v := .int .i32 o) (by (repeat (first | rw [World.cell?_drew] | rw [World.cell?_alloc_past _ _ _ (by first | (simp; done) | (simp; omega))])); rw [World.cell?_alloc_at _ _ _ _ (by simp)]; rfl); have b6 := kept_cell g1 (b := w.heap.size) (o := 6) (v := .int .i32 px) (by (repeat (first | rw [World.cell?_drew] | rw [World.cell?_alloc_past _ _ _ (by first | (simp; done) | (simp; omega))])); rw [World.cell?_alloc_at _ _ _ _ (by simp)]; rfl); have b7 := kept_cell g1 (b := w.heap.size) (o := 7) (v := .int .i32 py) (by (repeat (first | rw [World.cell?_drew] | rw [World.cell?_alloc_past _ _ _ (by first | (simp; done) | (simp; omega))])); rw [World.cell?_alloc_at _ _ _ _ (by simp)]; rfl); have b8 := kept_cell g1 (b := w.heap.size) (o := 8) (v := .int .i32 vx) (by (repeat (first | rw [World.cell?_drew] | rw [World.cell?_alloc_past _ _ _ (by first | (simp; done) | (simp; omega))])); rw [World.cell?_alloc_at _ _ _ _ (by simp)]; rfl); have b9 := kept_cell g1 (b := w.heap.size) (o := 9) (v := .int .i32 vy) (by (repeat (first | rw [World.cell?_drew] | rw [World.cell?_alloc_past _ _ _ (by first | (simp; done) | (simp; omega))])); rw [World.cell?_alloc_at _ _ _ _ (by simp)]; rfl); have d0 := kept_cell g1 (b := w.heap.size + 1) (o := 0) (v := .int .i32 dx) (by (repeat (first | rw [World.cell?_drew] | rw [World.cell?_alloc_past _ _ _ (by first | (simp; done) | (simp; omega))])); rw [World.cell?_alloc_at _ _ _ _ (by simp)]; rfl); have d1 := kept_cell g1 (b := w.heap.size + 1) (o := 1) (v := .int .i32 dy) (by (repeat (first | rw [World.cell?_drew] | rw [World.cell?_alloc_past _ _ _ (by first | (simp; done) | (simp; omega))])); rw [World.cell?_alloc_at _ _ _ _ (by simp)]; rfl); have gg := grown_trans (((Grown.refl _).alloc _ _).alloc _ _) g1)))
    | ((with_reducible refine (Ck.out _).mono ?_); rintro e w2 ⟨rfl, g2⟩
       replace b0 := kept_cell g2 (b := w.heap.size) (o := 0) (v := .int .u32 k) b0
       replace b1 := kept_cell g2 (b := w.heap.size) (o := 1) (v := .int .i32 r) b1
       replace b2 := kept_cell g2 (b := w.heap.size) (o := 2) (v := .int .i32 ax) b2
       replace b3 := kept_cell g2 (b := w.heap.size) (o := 3) (v := .int .i32 ay) b3
       replace b4 := kept_cell g2 (b := w.heap.size) (o := 4) (v := .int .i32 m) b4
       replace b5 := kept_cell g2 (b := w.heap.size) (o := 5) (v := .int .i32 o) b5
       replace b6 := kept_cell g2 (b := w.heap.size) (o := 6) (v := .int .i32 px) b6
       replace b7 := kept_cell g2 (b := w.heap.size) (o := 7) (v := .int .i32 py) b7
       replace b8 := kept_cell g2 (b := w.heap.size) (o := 8) (v := .int .i32 vx) b8
       replace b9 := kept_cell g2 (b := w.heap.size) (o := 9) (v := .int .i32 vy) b9
       replace d0 := kept_cell g2 (b := w.heap.size + 1) (o := 0) (v := .int .i32 dx) d0
       replace d1 := kept_cell g2 (b := w.heap.size + 1) (o := 1) (v := .int .i32 dy) d1
       replace gg := grown_trans gg g2
       have zb_w2 : w.heap.size < w2.heap.size := World.block_lt_of_cell? _ _ b0
       have zd_w2 : w.heap.size + 1 < w2.heap.size := World.block_lt_of_cell? _ _ d0))
  go_ret
  exact ⟨rfl, gg⟩

set_option maxRecDepth 100000 in
set_option maxHeartbeats 2000000 in
theorem ends_out0 (k r ax ay m o px py vx vy dx dy e : Int) (A : Hid BodyAwake) (Ck : Hid (Rck k r ax ay m o px py vx vy e)) (he : (e != 0) = false) (D0 : Hid (RIn dx 1000000000 false)) (w : World) :
    Calls Try.prog 5 #[.agg #[.int .u32 k, .int .i32 r, .int .i32 ax, .int .i32 ay, .int .i32 m, .int .i32 o, .int .i32 px, .int .i32 py, .int .i32 vx, .int .i32 vy], .agg #[.int .i32 dx, .int .i32 dy]] w fun e w' => e = .returned (.bool true) ∧ Grown w w' := by
  go_enter Try.func5, Try.ntmps5
  go_wp2_with (first
    | ((with_reducible refine (A.out _).mono ?_); rintro e w1 ⟨rfl, g1⟩
       (first | (replace gg := grown_trans gg g1) | (have b0 := kept_cell g1 (b := w.heap.size) (o := 0) (v := .int .u32 k) (by (repeat (first | rw [World.cell?_drew] | rw [World.cell?_alloc_past _ _ _ (by first | (simp; done) | (simp; omega))])); rw [World.cell?_alloc_at _ _ _ _ (by simp)]; rfl); have b1 := kept_cell g1 (b := w.heap.size) (o := 1) (v := .int .i32 r) (by (repeat (first | rw [World.cell?_drew] | rw [World.cell?_alloc_past _ _ _ (by first | (simp; done) | (simp; omega))])); rw [World.cell?_alloc_at _ _ _ _ (by simp)]; rfl); have b2 := kept_cell g1 (b := w.heap.size) (o := 2) (v := .int .i32 ax) (by (repeat (first | rw [World.cell?_drew] | rw [World.cell?_alloc_past _ _ _ (by first | (simp; done) | (simp; omega))])); rw [World.cell?_alloc_at _ _ _ _ (by simp)]; rfl); have b3 := kept_cell g1 (b := w.heap.size) (o := 3) (v := .int .i32 ay) (by (repeat (first | rw [World.cell?_drew] | rw [World.cell?_alloc_past _ _ _ (by first | (simp; done) | (simp; omega))])); rw [World.cell?_alloc_at _ _ _ _ (by simp)]; rfl); have b4 := kept_cell g1 (b := w.heap.size) (o := 4) (v := .int .i32 m) (by (repeat (first | rw [World.cell?_drew] | rw [World.cell?_alloc_past _ _ _ (by first | (simp; done) | (simp; omega))])); rw [World.cell?_alloc_at _ _ _ _ (by simp)]; rfl); have b5 := kept_cell g1 (b := w.heap.size) (o := 5) (v := .int .i32 o) (by (repeat (first | rw [World.cell?_drew] | rw [World.cell?_alloc_past _ _ _ (by first | (simp; done) | (simp; omega))])); rw [World.cell?_alloc_at _ _ _ _ (by simp)]; rfl); have b6 := kept_cell g1 (b := w.heap.size) (o := 6) (v := .int .i32 px) (by (repeat (first | rw [World.cell?_drew] | rw [World.cell?_alloc_past _ _ _ (by first | (simp; done) | (simp; omega))])); rw [World.cell?_alloc_at _ _ _ _ (by simp)]; rfl); have b7 := kept_cell g1 (b := w.heap.size) (o := 7) (v := .int .i32 py) (by (repeat (first | rw [World.cell?_drew] | rw [World.cell?_alloc_past _ _ _ (by first | (simp; done) | (simp; omega))])); rw [World.cell?_alloc_at _ _ _ _ (by simp)]; rfl); have b8 := kept_cell g1 (b := w.heap.size) (o := 8) (v := .int .i32 vx) (by (repeat (first | rw [World.cell?_drew] | rw [World.cell?_alloc_past _ _ _ (by first | (simp; done) | (simp; omega))])); rw [World.cell?_alloc_at _ _ _ _ (by simp)]; rfl); have b9 := kept_cell g1 (b := w.heap.size) (o := 9) (v := .int .i32 vy) (by (repeat (first | rw [World.cell?_drew] | rw [World.cell?_alloc_past _ _ _ (by first | (simp; done) | (simp; omega))])); rw [World.cell?_alloc_at _ _ _ _ (by simp)]; rfl); have d0 := kept_cell g1 (b := w.heap.size + 1) (o := 0) (v := .int .i32 dx) (by (repeat (first | rw [World.cell?_drew] | rw [World.cell?_alloc_past _ _ _ (by first | (simp; done) | (simp; omega))])); rw [World.cell?_alloc_at _ _ _ _ (by simp)]; rfl); have d1 := kept_cell g1 (b := w.heap.size + 1) (o := 1) (v := .int .i32 dy) (by (repeat (first | rw [World.cell?_drew] | rw [World.cell?_alloc_past _ _ _ (by first | (simp; done) | (simp; omega))])); rw [World.cell?_alloc_at _ _ _ _ (by simp)]; rfl); have gg := grown_trans (((Grown.refl _).alloc _ _).alloc _ _) g1)))
    | ((with_reducible refine (Ck.out _).mono ?_); rintro e w2 ⟨rfl, g2⟩
       replace b0 := kept_cell g2 (b := w.heap.size) (o := 0) (v := .int .u32 k) b0
       replace b1 := kept_cell g2 (b := w.heap.size) (o := 1) (v := .int .i32 r) b1
       replace b2 := kept_cell g2 (b := w.heap.size) (o := 2) (v := .int .i32 ax) b2
       replace b3 := kept_cell g2 (b := w.heap.size) (o := 3) (v := .int .i32 ay) b3
       replace b4 := kept_cell g2 (b := w.heap.size) (o := 4) (v := .int .i32 m) b4
       replace b5 := kept_cell g2 (b := w.heap.size) (o := 5) (v := .int .i32 o) b5
       replace b6 := kept_cell g2 (b := w.heap.size) (o := 6) (v := .int .i32 px) b6
       replace b7 := kept_cell g2 (b := w.heap.size) (o := 7) (v := .int .i32 py) b7
       replace b8 := kept_cell g2 (b := w.heap.size) (o := 8) (v := .int .i32 vx) b8
       replace b9 := kept_cell g2 (b := w.heap.size) (o := 9) (v := .int .i32 vy) b9
       replace d0 := kept_cell g2 (b := w.heap.size + 1) (o := 0) (v := .int .i32 dx) d0
       replace d1 := kept_cell g2 (b := w.heap.size + 1) (o := 1) (v := .int .i32 dy) d1
       replace gg := grown_trans gg g2
       have zb_w2 : w.heap.size < w2.heap.size := World.block_lt_of_cell? _ _ b0
       have zd_w2 : w.heap.size + 1 < w2.heap.size := World.block_lt_of_cell? _ _ d0)
    | ((with_reducible refine (D0.out _).mono ?_); rintro e w' ⟨rfl, rfl⟩))
  go_ret
  exact ⟨rfl, gg⟩

set_option maxRecDepth 100000 in
set_option maxHeartbeats 2000000 in
theorem ends_out1 (k r ax ay m o px py vx vy dx dy e : Int) (A : Hid BodyAwake) (Ck : Hid (Rck k r ax ay m o px py vx vy e)) (he : (e != 0) = false) (D0 : Hid (RIn dx 1000000000 true)) (D1 : Hid (RIn dy 1000000000 false)) (w : World) :
    Calls Try.prog 5 #[.agg #[.int .u32 k, .int .i32 r, .int .i32 ax, .int .i32 ay, .int .i32 m, .int .i32 o, .int .i32 px, .int .i32 py, .int .i32 vx, .int .i32 vy], .agg #[.int .i32 dx, .int .i32 dy]] w fun e w' => e = .returned (.bool true) ∧ Grown w w' := by
  go_enter Try.func5, Try.ntmps5
  go_wp2_with (first
    | ((with_reducible refine (A.out _).mono ?_); rintro e w1 ⟨rfl, g1⟩
       (first | (replace gg := grown_trans gg g1) | (have b0 := kept_cell g1 (b := w.heap.size) (o := 0) (v := .int .u32 k) (by (repeat (first | rw [World.cell?_drew] | rw [World.cell?_alloc_past _ _ _ (by first | (simp; done) | (simp; omega))])); rw [World.cell?_alloc_at _ _ _ _ (by simp)]; rfl); have b1 := kept_cell g1 (b := w.heap.size) (o := 1) (v := .int .i32 r) (by (repeat (first | rw [World.cell?_drew] | rw [World.cell?_alloc_past _ _ _ (by first | (simp; done) | (simp; omega))])); rw [World.cell?_alloc_at _ _ _ _ (by simp)]; rfl); have b2 := kept_cell g1 (b := w.heap.size) (o := 2) (v := .int .i32 ax) (by (repeat (first | rw [World.cell?_drew] | rw [World.cell?_alloc_past _ _ _ (by first | (simp; done) | (simp; omega))])); rw [World.cell?_alloc_at _ _ _ _ (by simp)]; rfl); have b3 := kept_cell g1 (b := w.heap.size) (o := 3) (v := .int .i32 ay) (by (repeat (first | rw [World.cell?_drew] | rw [World.cell?_alloc_past _ _ _ (by first | (simp; done) | (simp; omega))])); rw [World.cell?_alloc_at _ _ _ _ (by simp)]; rfl); have b4 := kept_cell g1 (b := w.heap.size) (o := 4) (v := .int .i32 m) (by (repeat (first | rw [World.cell?_drew] | rw [World.cell?_alloc_past _ _ _ (by first | (simp; done) | (simp; omega))])); rw [World.cell?_alloc_at _ _ _ _ (by simp)]; rfl); have b5 := kept_cell g1 (b := w.heap.size) (o := 5) (v := .int .i32 o) (by (repeat (first | rw [World.cell?_drew] | rw [World.cell?_alloc_past _ _ _ (by first | (simp; done) | (simp; omega))])); rw [World.cell?_alloc_at _ _ _ _ (by simp)]; rfl); have b6 := kept_cell g1 (b := w.heap.size) (o := 6) (v := .int .i32 px) (by (repeat (first | rw [World.cell?_drew] | rw [World.cell?_alloc_past _ _ _ (by first | (simp; done) | (simp; omega))])); rw [World.cell?_alloc_at _ _ _ _ (by simp)]; rfl); have b7 := kept_cell g1 (b := w.heap.size) (o := 7) (v := .int .i32 py) (by (repeat (first | rw [World.cell?_drew] | rw [World.cell?_alloc_past _ _ _ (by first | (simp; done) | (simp; omega))])); rw [World.cell?_alloc_at _ _ _ _ (by simp)]; rfl); have b8 := kept_cell g1 (b := w.heap.size) (o := 8) (v := .int .i32 vx) (by (repeat (first | rw [World.cell?_drew] | rw [World.cell?_alloc_past _ _ _ (by first | (simp; done) | (simp; omega))])); rw [World.cell?_alloc_at _ _ _ _ (by simp)]; rfl); have b9 := kept_cell g1 (b := w.heap.size) (o := 9) (v := .int .i32 vy) (by (repeat (first | rw [World.cell?_drew] | rw [World.cell?_alloc_past _ _ _ (by first | (simp; done) | (simp; omega))])); rw [World.cell?_alloc_at _ _ _ _ (by simp)]; rfl); have d0 := kept_cell g1 (b := w.heap.size + 1) (o := 0) (v := .int .i32 dx) (by (repeat (first | rw [World.cell?_drew] | rw [World.cell?_alloc_past _ _ _ (by first | (simp; done) | (simp; omega))])); rw [World.cell?_alloc_at _ _ _ _ (by simp)]; rfl); have d1 := kept_cell g1 (b := w.heap.size + 1) (o := 1) (v := .int .i32 dy) (by (repeat (first | rw [World.cell?_drew] | rw [World.cell?_alloc_past _ _ _ (by first | (simp; done) | (simp; omega))])); rw [World.cell?_alloc_at _ _ _ _ (by simp)]; rfl); have gg := grown_trans (((Grown.refl _).alloc _ _).alloc _ _) g1)))
    | ((with_reducible refine (Ck.out _).mono ?_); rintro e w2 ⟨rfl, g2⟩
       replace b0 := kept_cell g2 (b := w.heap.size) (o := 0) (v := .int .u32 k) b0
       replace b1 := kept_cell g2 (b := w.heap.size) (o := 1) (v := .int .i32 r) b1
       replace b2 := kept_cell g2 (b := w.heap.size) (o := 2) (v := .int .i32 ax) b2
       replace b3 := kept_cell g2 (b := w.heap.size) (o := 3) (v := .int .i32 ay) b3
       replace b4 := kept_cell g2 (b := w.heap.size) (o := 4) (v := .int .i32 m) b4
       replace b5 := kept_cell g2 (b := w.heap.size) (o := 5) (v := .int .i32 o) b5
       replace b6 := kept_cell g2 (b := w.heap.size) (o := 6) (v := .int .i32 px) b6
       replace b7 := kept_cell g2 (b := w.heap.size) (o := 7) (v := .int .i32 py) b7
       replace b8 := kept_cell g2 (b := w.heap.size) (o := 8) (v := .int .i32 vx) b8
       replace b9 := kept_cell g2 (b := w.heap.size) (o := 9) (v := .int .i32 vy) b9
       replace d0 := kept_cell g2 (b := w.heap.size + 1) (o := 0) (v := .int .i32 dx) d0
       replace d1 := kept_cell g2 (b := w.heap.size + 1) (o := 1) (v := .int .i32 dy) d1
       replace gg := grown_trans gg g2
       have zb_w2 : w.heap.size < w2.heap.size := World.block_lt_of_cell? _ _ b0
       have zd_w2 : w.heap.size + 1 < w2.heap.size := World.block_lt_of_cell? _ _ d0)
    | ((with_reducible refine (D0.out _).mono ?_); rintro e w' ⟨rfl, rfl⟩)
    | ((with_reducible refine (D1.out _).mono ?_); rintro e w' ⟨rfl, rfl⟩))
  go_ret
  exact ⟨rfl, gg⟩

theorem vec_eql (a b c d : Int) (c0 c1 : Bool) (h0 : (a == c) = c0) (h1 : (b == d) = c1) (w : World) : (binOp .eql 24 (.agg #[.int .i32 a, .int .i32 b]) (.agg #[.int .i32 c, .int .i32 d])).run Try.prog w = .ok (.bool (c0 && c1)) w := by
  rw [← h0, ← h1]
  by_cases e0 : a = c
  · by_cases e1 : b = d
    · subst e0; subst e1
      simp [go_sem]
    · subst e0
      have e2 : (b == d) = false := beq_eq_false_iff_ne.2 e1
      simp [go_sem, e2]
  · have e2 : (a == c) = false := beq_eq_false_iff_ne.2 e0
    simp [go_sem, e2]

set_option maxRecDepth 100000 in
set_option maxHeartbeats 8000000 in
theorem ends_good (k r ax ay m o px py vx vy dx dy x0 y0 X0 Y0 ex ey cx cy rx ry sx sy s1 s2 u1 u2 u3 u4 t1 t2 t3 t4 : Int) (c0 c1 : Bool) (A : Hid BodyAwake) (Ck : Hid (Rck k r ax ay m o px py vx vy 0)) (D0 : Hid (RIn dx 1000000000 true)) (D1 : Hid (RIn dy 1000000000 true))
    (h0 : wrap32 (x0 + X0) = s1) (h1 : wrap32 (2 * px) = s1) (h2 : wrap32 (y0 + Y0) = s2) (h3 : wrap32 (2 * py) = s2) (h4 : wrap32 (X0 - px) = u1) (h5 : wrap32 (u1 + r) = t1) (h6 : wrap32 (Y0 - py) = u2) (h7 : wrap32 (u2 + r) = t2) (h8 : wrap32 (x0 - px) = u3) (h9 : wrap32 (u3 + r) = t3) (h10 : wrap32 (y0 - py) = u4) (h11 : wrap32 (u4 + r) = t4) (h12 : wrap32 (x0 + dx) = rx) (h13 : wrap32 (y0 + dy) = ry) (h14 : wrap32 (X0 + dx) = sx) (h15 : wrap32 (Y0 + dy) = sy) (g0 : decide (ex < t1) = false) (g1 : decide (ey < t2) = false) (g2 : decide (ex < t3) = false) (g3 : decide (ey < t4) = false) (e0 : (x0 == X0) = c0) (e1 : (y0 == Y0) = c1)
    (E1 : Hid (End k r ax ay m o px py vx vy x0 y0 X0 Y0)) (X1 : Hid (Ext k r ax ay m o px py vx vy ex ey)) (M1 : Hid (Mov k r ax ay m o px py vx vy dx dy cx cy)) (E2 : Hid (End k r ax ay m o cx cy vx vy rx ry sx sy)) (I1 : Hid (Cir k r ax ay m o px py vx vy (c0 && c1))) (w : World) :
    Calls Try.prog 5 #[.agg #[.int .u32 k, .int .i32 r, .int .i32 ax, .int .i32 ay, .int .i32 m, .int .i32 o, .int .i32 px, .int .i32 py, .int .i32 vx, .int .i32 vy], .agg #[.int .i32 dx, .int .i32 dy]] w fun e w' => e = .returned (.bool true) ∧ Grown w w' := by
  have f0 := wr32 h0
  have f1 := wr32 h1
  have f2 := wr32 h2
  have f3 := wr32 h3
  have f4 := wr32 h4
  have f5 := wr32 h5
  have f6 := wr32 h6
  have f7 := wr32 h7
  have f8 := wr32 h8
  have f9 := wr32 h9
  have f10 := wr32 h10
  have f11 := wr32 h11
  have f12 := wr32 h12
  have f13 := wr32 h13
  have f14 := wr32 h14
  have f15 := wr32 h15
  have e2 : ∀ w, (binOp .eql 24 (.agg #[.int .i32 x0, .int .i32 y0]) (.agg #[.int .i32 X0, .int .i32 Y0])).run Try.prog w = .ok (.bool (c0 && c1)) w := vec_eql _ _ _ _ _ _ e0 e1
  clear e0 e1
  go_enter Try.func5, Try.ntmps5
  go_wp2_with (first
    | ((with_reducible refine (A.out _).mono ?_); rintro e w1 ⟨rfl, g1⟩
       (first | (replace gg := grown_trans gg g1) | (have b0 := kept_cell g1 (b := w.heap.size) (o := 0) (v := .int .u32 k) (by (repeat (first | rw [World.cell?_drew] | rw [World.cell?_alloc_past _ _ _ (by first | (simp; done) | (simp; omega))])); rw [World.cell?_alloc_at _ _ _ _ (by simp)]; rfl); have b1 := kept_cell g1 (b := w.heap.size) (o := 1) (v := .int .i32 r) (by (repeat (first | rw [World.cell?_drew] | rw [World.cell?_alloc_past _ _ _ (by first | (simp; done) | (simp; omega))])); rw [World.cell?_alloc_at _ _ _ _ (by simp)]; rfl); have b2 := kept_cell g1 (b := w.heap.size) (o := 2) (v := .int .i32 ax) (by (repeat (first | rw [World.cell?_drew] | rw [World.cell?_alloc_past _ _ _ (by first | (simp; done) | (simp; omega))])); rw [World.cell?_alloc_at _ _ _ _ (by simp)]; rfl); have b3 := kept_cell g1 (b := w.heap.size) (o := 3) (v := .int .i32 ay) (by (repeat (first | rw [World.cell?_drew] | rw [World.cell?_alloc_past _ _ _ (by first | (simp; done) | (simp; omega))])); rw [World.cell?_alloc_at _ _ _ _ (by simp)]; rfl); have b4 := kept_cell g1 (b := w.heap.size) (o := 4) (v := .int .i32 m) (by (repeat (first | rw [World.cell?_drew] | rw [World.cell?_alloc_past _ _ _ (by first | (simp; done) | (simp; omega))])); rw [World.cell?_alloc_at _ _ _ _ (by simp)]; rfl); have b5 := kept_cell g1 (b := w.heap.size) (o := 5) (v := .int .i32 o) (by (repeat (first | rw [World.cell?_drew] | rw [World.cell?_alloc_past _ _ _ (by first | (simp; done) | (simp; omega))])); rw [World.cell?_alloc_at _ _ _ _ (by simp)]; rfl); have b6 := kept_cell g1 (b := w.heap.size) (o := 6) (v := .int .i32 px) (by (repeat (first | rw [World.cell?_drew] | rw [World.cell?_alloc_past _ _ _ (by first | (simp; done) | (simp; omega))])); rw [World.cell?_alloc_at _ _ _ _ (by simp)]; rfl); have b7 := kept_cell g1 (b := w.heap.size) (o := 7) (v := .int .i32 py) (by (repeat (first | rw [World.cell?_drew] | rw [World.cell?_alloc_past _ _ _ (by first | (simp; done) | (simp; omega))])); rw [World.cell?_alloc_at _ _ _ _ (by simp)]; rfl); have b8 := kept_cell g1 (b := w.heap.size) (o := 8) (v := .int .i32 vx) (by (repeat (first | rw [World.cell?_drew] | rw [World.cell?_alloc_past _ _ _ (by first | (simp; done) | (simp; omega))])); rw [World.cell?_alloc_at _ _ _ _ (by simp)]; rfl); have b9 := kept_cell g1 (b := w.heap.size) (o := 9) (v := .int .i32 vy) (by (repeat (first | rw [World.cell?_drew] | rw [World.cell?_alloc_past _ _ _ (by first | (simp; done) | (simp; omega))])); rw [World.cell?_alloc_at _ _ _ _ (by simp)]; rfl); have d0 := kept_cell g1 (b := w.heap.size + 1) (o := 0) (v := .int .i32 dx) (by (repeat (first | rw [World.cell?_drew] | rw [World.cell?_alloc_past _ _ _ (by first | (simp; done) | (simp; omega))])); rw [World.cell?_alloc_at _ _ _ _ (by simp)]; rfl); have d1 := kept_cell g1 (b := w.heap.size + 1) (o := 1) (v := .int .i32 dy) (by (repeat (first | rw [World.cell?_drew] | rw [World.cell?_alloc_past _ _ _ (by first | (simp; done) | (simp; omega))])); rw [World.cell?_alloc_at _ _ _ _ (by simp)]; rfl); have gg := grown_trans (((Grown.refl _).alloc _ _).alloc _ _) g1)))
    | ((with_reducible refine (Ck.out _).mono ?_); rintro e w2 ⟨rfl, g2⟩
       replace b0 := kept_cell g2 (b := w.heap.size) (o := 0) (v := .int .u32 k) b0
       replace b1 := kept_cell g2 (b := w.heap.size) (o := 1) (v := .int .i32 r) b1
       replace b2 := kept_cell g2 (b := w.heap.size) (o := 2) (v := .int .i32 ax) b2
       replace b3 := kept_cell g2 (b := w.heap.size) (o := 3) (v := .int .i32 ay) b3
       replace b4 := kept_cell g2 (b := w.heap.size) (o := 4) (v := .int .i32 m) b4
       replace b5 := kept_cell g2 (b := w.heap.size) (o := 5) (v := .int .i32 o) b5
       replace b6 := kept_cell g2 (b := w.heap.size) (o := 6) (v := .int .i32 px) b6
       replace b7 := kept_cell g2 (b := w.heap.size) (o := 7) (v := .int .i32 py) b7
       replace b8 := kept_cell g2 (b := w.heap.size) (o := 8) (v := .int .i32 vx) b8
       replace b9 := kept_cell g2 (b := w.heap.size) (o := 9) (v := .int .i32 vy) b9
       replace d0 := kept_cell g2 (b := w.heap.size + 1) (o := 0) (v := .int .i32 dx) d0
       replace d1 := kept_cell g2 (b := w.heap.size + 1) (o := 1) (v := .int .i32 dy) d1
       replace gg := grown_trans gg g2
       have zb_w2 : w.heap.size < w2.heap.size := World.block_lt_of_cell? _ _ b0
       have zd_w2 : w.heap.size + 1 < w2.heap.size := World.block_lt_of_cell? _ _ d0)
    | ((with_reducible refine (D0.out _).mono ?_); rintro e w' ⟨rfl, rfl⟩)
    | ((with_reducible refine (D1.out _).mono ?_); rintro e w' ⟨rfl, rfl⟩)
    | ((with_reducible refine (E1.out _).mono ?_); rintro e w3 ⟨rfl, g3⟩
       replace b0 := kept_cell g3 (b := w.heap.size) (o := 0) (v := .int .u32 k) b0
       replace b1 := kept_cell g3 (b := w.heap.size) (o := 1) (v := .int .i32 r) b1
       replace b2 := kept_cell g3 (b := w.heap.size) (o := 2) (v := .int .i32 ax) b2
       replace b3 := kept_cell g3 (b := w.heap.size) (o := 3) (v := .int .i32 ay) b3
       replace b4 := kept_cell g3 (b := w.heap.size) (o := 4) (v := .int .i32 m) b4
       replace b5 := kept_cell g3 (b := w.heap.size) (o := 5) (v := .int .i32 o) b5
       replace b6 := kept_cell g3 (b := w.heap.size) (o := 6) (v := .int .i32 px) b6
       replace b7 := kept_cell g3 (b := w.heap.size) (o := 7) (v := .int .i32 py) b7
       replace b8 := kept_cell g3 (b := w.heap.size) (o := 8) (v := .int .i32 vx) b8
       replace b9 := kept_cell g3 (b := w.heap.size) (o := 9) (v := .int .i32 vy) b9
       replace d0 := kept_cell g3 (b := w.heap.size + 1) (o := 0) (v := .int .i32 dx) d0
       replace d1 := kept_cell g3 (b := w.heap.size + 1) (o := 1) (v := .int .i32 dy) d1
       replace gg := grown_trans gg g3
       have zb_w3 : w.heap.size < w3.heap.size := World.block_lt_of_cell? _ _ b0
       have zd_w3 : w.heap.size + 1 < w3.heap.size := World.block_lt_of_cell? _ _ d0)
    | ((with_reducible refine (X1.out _).mono ?_); rintro e w4 ⟨rfl, g4⟩
       replace b0 := kept_cell g4 (b := w.heap.size) (o := 0) (v := .int .u32 k) (alloc_two b0)
       replace b1 := kept_cell g4 (b := w.heap.size) (o := 1) (v := .int .i32 r) (alloc_two b1)
       replace b2 := kept_cell g4 (b := w.heap.size) (o := 2) (v := .int .i32 ax) (alloc_two b2)
       replace b3 := kept_cell g4 (b := w.heap.size) (o := 3) (v := .int .i32 ay) (alloc_two b3)
       replace b4 := kept_cell g4 (b := w.heap.size) (o := 4) (v := .int .i32 m) (alloc_two b4)
       replace b5 := kept_cell g4 (b := w.heap.size) (o := 5) (v := .int .i32 o) (alloc_two b5)
       replace b6 := kept_cell g4 (b := w.heap.size) (o := 6) (v := .int .i32 px) (alloc_two b6)
       replace b7 := kept_cell g4 (b := w.heap.size) (o := 7) (v := .int .i32 py) (alloc_two b7)
       replace b8 := kept_cell g4 (b := w.heap.size) (o := 8) (v := .int .i32 vx) (alloc_two b8)
       replace b9 := kept_cell g4 (b := w.heap.size) (o := 9) (v := .int .i32 vy) (alloc_two b9)
       replace d0 := kept_cell g4 (b := w.heap.size + 1) (o := 0) (v := .int .i32 dx) (alloc_two d0)
       replace d1 := kept_cell g4 (b := w.heap.size + 1) (o := 1) (v := .int .i32 dy) (alloc_two d1)
       have p0 := kept_cell g4 (b := w3.heap.size) (o := 0) (v := .int .i32 x0) (by (repeat (first | rw [World.cell?_drew] | rw [World.cell?_alloc_past _ _ _ (by first | (simp; done) | (simp; omega))])); rw [World.cell?_alloc_at _ _ _ _ (by simp)]; rfl)
       have p1 := kept_cell g4 (b := w3.heap.size) (o := 1) (v := .int .i32 y0) (by (repeat (first | rw [World.cell?_drew] | rw [World.cell?_alloc_past _ _ _ (by first | (simp; done) | (simp; omega))])); rw [World.cell?_alloc_at _ _ _ _ (by simp)]; rfl)
       have q0 := kept_cell g4 (b := w3.heap.size + 1) (o := 0) (v := .int .i32 X0) (by (repeat (first | rw [World.cell?_drew] | rw [World.cell?_alloc_past _ _ _ (by first | (simp; done) | (simp; omega))])); rw [World.cell?_alloc_at _ _ _ _ (by simp)]; rfl)
       have q1 := kept_cell g4 (b := w3.heap.size + 1) (o := 1) (v := .int .i32 Y0) (by (repeat (first | rw [World.cell?_drew] | rw [World.cell?_alloc_past _ _ _ (by first | (simp; done) | (simp; omega))])); rw [World.cell?_alloc_at _ _ _ _ (by simp)]; rfl)
       replace gg := grown_trans ((gg.alloc _ _).alloc _ _) g4)
    | ((with_reducible refine (M1.out _).mono ?_); rintro e w5 ⟨rfl, g5⟩
       replace b0 := kept_cell g5 (b := w.heap.size) (o := 0) (v := .int .u32 k) b0
       replace b1 := kept_cell g5 (b := w.heap.size) (o := 1) (v := .int .i32 r) b1
       replace b2 := kept_cell g5 (b := w.heap.size) (o := 2) (v := .int .i32 ax) b2
       replace b3 := kept_cell g5 (b := w.heap.size) (o := 3) (v := .int .i32 ay) b3
       replace b4 := kept_cell g5 (b := w.heap.size) (o := 4) (v := .int .i32 m) b4
       replace b5 := kept_cell g5 (b := w.heap.size) (o := 5) (v := .int .i32 o) b5
       replace b6 := kept_cell g5 (b := w.heap.size) (o := 6) (v := .int .i32 px) b6
       replace b7 := kept_cell g5 (b := w.heap.size) (o := 7) (v := .int .i32 py) b7
       replace b8 := kept_cell g5 (b := w.heap.size) (o := 8) (v := .int .i32 vx) b8
       replace b9 := kept_cell g5 (b := w.heap.size) (o := 9) (v := .int .i32 vy) b9
       replace d0 := kept_cell g5 (b := w.heap.size + 1) (o := 0) (v := .int .i32 dx) d0
       replace d1 := kept_cell g5 (b := w.heap.size + 1) (o := 1) (v := .int .i32 dy) d1
       replace p0 := kept_cell g5 (b := w3.heap.size) (o := 0) (v := .int .i32 x0) p0
       replace p1 := kept_cell g5 (b := w3.heap.size) (o := 1) (v := .int .i32 y0) p1
       replace q0 := kept_cell g5 (b := w3.heap.size + 1) (o := 0) (v := .int .i32 X0) q0
       replace q1 := kept_cell g5 (b := w3.heap.size + 1) (o := 1) (v := .int .i32 Y0) q1
       replace gg := grown_trans gg g5
       have zb_w5 : w.heap.size < w5.heap.size := World.block_lt_of_cell? _ _ b0
       have zd_w5 : w.heap.size + 1 < w5.heap.size := World.block_lt_of_cell? _ _ d0
       have zp_w5 : w3.heap.size < w5.heap.size := World.block_lt_of_cell? _ _ p0
       have zq_w5 : w3.heap.size + 1 < w5.heap.size := World.block_lt_of_cell? _ _ q0)
    | ((with_reducible refine (E2.out _).mono ?_); rintro e w6 ⟨rfl, g6⟩
       replace b0 := kept_cell g6 (b := w.heap.size) (o := 0) (v := .int .u32 k) (alloc_one b0)
       replace b1 := kept_cell g6 (b := w.heap.size) (o := 1) (v := .int .i32 r) (alloc_one b1)
       replace b2 := kept_cell g6 (b := w.heap.size) (o := 2) (v := .int .i32 ax) (alloc_one b2)
       replace b3 := kept_cell g6 (b := w.heap.size) (o := 3) (v := .int .i32 ay) (alloc_one b3)
       replace b4 := kept_cell g6 (b := w.heap.size) (o := 4) (v := .int .i32 m) (alloc_one b4)
       replace b5 := kept_cell g6 (b := w.heap.size) (o := 5) (v := .int .i32 o) (alloc_one b5)
       replace b6 := kept_cell g6 (b := w.heap.size) (o := 6) (v := .int .i32 px) (alloc_one b6)
       replace b7 := kept_cell g6 (b := w.heap.size) (o := 7) (v := .int .i32 py) (alloc_one b7)
       replace b8 := kept_cell g6 (b := w.heap.size) (o := 8) (v := .int .i32 vx) (alloc_one b8)
       replace b9 := kept_cell g6 (b := w.heap.size) (o := 9) (v := .int .i32 vy) (alloc_one b9)
       replace d0 := kept_cell g6 (b := w.heap.size + 1) (o := 0) (v := .int .i32 dx) (alloc_one d0)
       replace d1 := kept_cell g6 (b := w.heap.size + 1) (o := 1) (v := .int .i32 dy) (alloc_one d1)
       replace p0 := kept_cell g6 (b := w3.heap.size) (o := 0) (v := .int .i32 x0) (alloc_one p0)
       replace p1 := kept_cell g6 (b := w3.heap.size) (o := 1) (v := .int .i32 y0) (alloc_one p1)
       replace q0 := kept_cell g6 (b := w3.heap.size + 1) (o := 0) (v := .int .i32 X0) (alloc_one q0)
       replace q1 := kept_cell g6 (b := w3.heap.size + 1) (o := 1) (v := .int .i32 Y0) (alloc_one q1)
       have c0 := kept_cell g6 (b := w5.heap.size) (o := 0) (v := .int .u32 k) (by (repeat (first | rw [World.cell?_drew] | rw [World.cell?_alloc_past _ _ _ (by first | (simp; done) | (simp; omega))])); rw [World.cell?_alloc_at _ _ _ _ (by simp)]; rfl)
       have c1 := kept_cell g6 (b := w5.heap.size) (o := 1) (v := .int .i32 r) (by (repeat (first | rw [World.cell?_drew] | rw [World.cell?_alloc_past _ _ _ (by first | (simp; done) | (simp; omega))])); rw [World.cell?_alloc_at _ _ _ _ (by simp)]; rfl)
       have c2 := kept_cell g6 (b := w5.heap.size) (o := 2) (v := .int .i32 ax) (by (repeat (first | rw [World.cell?_drew] | rw [World.cell?_alloc_past _ _ _ (by first | (simp; done) | (simp; omega))])); rw [World.cell?_alloc_at _ _ _ _ (by simp)]; rfl)
       have c3 := kept_cell g6 (b := w5.heap.size) (o := 3) (v := .int .i32 ay) (by (repeat (first | rw [World.cell?_drew] | rw [World.cell?_alloc_past _ _ _ (by first | (simp; done) | (simp; omega))])); rw [World.cell?_alloc_at _ _ _ _ (by simp)]; rfl)
       have c4 := kept_cell g6 (b := w5.heap.size) (o := 4) (v := .int .i32 m) (by (repeat (first | rw [World.cell?_drew] | rw [World.cell?_alloc_past _ _ _ (by first | (simp; done) | (simp; omega))])); rw [World.cell?_alloc_at _ _ _ _ (by simp)]; rfl)
       have c5 := kept_cell g6 (b := w5.heap.size) (o := 5) (v := .int .i32 o) (by (repeat (first | rw [World.cell?_drew] | rw [World.cell?_alloc_past _ _ _ (by first | (simp; done) | (simp; omega))])); rw [World.cell?_alloc_at _ _ _ _ (by simp)]; rfl)
       have c6 := kept_cell g6 (b := w5.heap.size) (o := 6) (v := .int .i32 cx) (by (repeat (first | rw [World.cell?_drew] | rw [World.cell?_alloc_past _ _ _ (by first | (simp; done) | (simp; omega))])); rw [World.cell?_alloc_at _ _ _ _ (by simp)]; rfl)
       have c7 := kept_cell g6 (b := w5.heap.size) (o := 7) (v := .int .i32 cy) (by (repeat (first | rw [World.cell?_drew] | rw [World.cell?_alloc_past _ _ _ (by first | (simp; done) | (simp; omega))])); rw [World.cell?_alloc_at _ _ _ _ (by simp)]; rfl)
       have c8 := kept_cell g6 (b := w5.heap.size) (o := 8) (v := .int .i32 vx) (by (repeat (first | rw [World.cell?_drew] | rw [World.cell?_alloc_past _ _ _ (by first | (simp; done) | (simp; omega))])); rw [World.cell?_alloc_at _ _ _ _ (by simp)]; rfl)
       have c9 := kept_cell g6 (b := w5.heap.size) (o := 9) (v := .int .i32 vy) (by (repeat (first | rw [World.cell?_drew] | rw [World.cell?_alloc_past _ _ _ (by first | (simp; done) | (simp; omega))])); rw [World.cell?_alloc_at _ _ _ _ (by simp)]; rfl)
       replace gg := grown_trans (gg.alloc _ _) g6
       have zb_w6 : w.heap.size < w6.heap.size := World.block_lt_of_cell? _ _ b0
       have zd_w6 : w.heap.size + 1 < w6.heap.size := World.block_lt_of_cell? _ _ d0
       have zp_w6 : w3.heap.size < w6.heap.size := World.block_lt_of_cell? _ _ p0
       have zq_w6 : w3.heap.size + 1 < w6.heap.size := World.block_lt_of_cell? _ _ q0
       have zc_w6 : w5.heap.size < w6.heap.size := World.block_lt_of_cell? _ _ c0))
  go_region_held3 (fun w' => w'.cell? ⟨w.heap.size, 0, none⟩ = some (.int .u32 k) ∧ w'.cell? ⟨w.heap.size, 1, none⟩ = some (.int .i32 r) ∧ w'.cell? ⟨w.heap.size, 2, none⟩ = some (.int .i32 ax) ∧ w'.cell? ⟨w.heap.size, 3, none⟩ = some (.int .i32 ay) ∧ w'.cell? ⟨w.heap.size, 4, none⟩ = some (.int .i32 m) ∧ w'.cell? ⟨w.heap.size, 5, none⟩ = some (.int .i32 o) ∧ w'.cell? ⟨w.heap.size, 6, none⟩ = some (.int .i32 px) ∧ w'.cell? ⟨w.heap.size, 7, none⟩ = some (.int .i32 py) ∧ w'.cell? ⟨w.heap.size, 8, none⟩ = some (.int .i32 vx) ∧ w'.cell? ⟨w.heap.size, 9, none⟩ = some (.int .i32 vy) ∧ w'.cell? ⟨w.heap.size + 1, 0, none⟩ = some (.int .i32 dx) ∧ w'.cell? ⟨w.heap.size + 1, 1, none⟩ = some (.int .i32 dy) ∧ w'.cell? ⟨w3.heap.size, 0, none⟩ = some (.int .i32 x0) ∧ w'.cell? ⟨w3.heap.size, 1, none⟩ = some (.int .i32 y0) ∧ w'.cell? ⟨w3.heap.size + 1, 0, none⟩ = some (.int .i32 X0) ∧ w'.cell? ⟨w3.heap.size + 1, 1, none⟩ = some (.int .i32 Y0) ∧ w'.cell? ⟨w5.heap.size, 0, none⟩ = some (.int .u32 k) ∧ w'.cell? ⟨w5.heap.size, 1, none⟩ = some (.int .i32 r) ∧ w'.cell? ⟨w5.heap.size, 2, none⟩ = some (.int .i32 ax) ∧ w'.cell? ⟨w5.heap.size, 3, none⟩ = some (.int .i32 ay) ∧ w'.cell? ⟨w5.heap.size, 4, none⟩ = some (.int .i32 m) ∧ w'.cell? ⟨w5.heap.size, 5, none⟩ = some (.int .i32 o) ∧ w'.cell? ⟨w5.heap.size, 6, none⟩ = some (.int .i32 cx) ∧ w'.cell? ⟨w5.heap.size, 7, none⟩ = some (.int .i32 cy) ∧ w'.cell? ⟨w5.heap.size, 8, none⟩ = some (.int .i32 vx) ∧ w'.cell? ⟨w5.heap.size, 9, none⟩ = some (.int .i32 vy) ∧ w'.cell? ⟨w6.heap.size, 0, none⟩ = some (.int .i32 rx) ∧ w'.cell? ⟨w6.heap.size, 1, none⟩ = some (.int .i32 ry) ∧ w'.cell? ⟨w6.heap.size + 1, 0, none⟩ = some (.int .i32 sx) ∧ w'.cell? ⟨w6.heap.size + 1, 1, none⟩ = some (.int .i32 sy) ∧ Grown w w')
    (first
      | (with_reducible assumption)
      | exact ⟨by rw [World.cell?_drew]; exact alloc_two b0, by rw [World.cell?_drew]; exact alloc_two b1, by rw [World.cell?_drew]; exact alloc_two b2, by rw [World.cell?_drew]; exact alloc_two b3, by rw [World.cell?_drew]; exact alloc_two b4, by rw [World.cell?_drew]; exact alloc_two b5, by rw [World.cell?_drew]; exact alloc_two b6, by rw [World.cell?_drew]; exact alloc_two b7, by rw [World.cell?_drew]; exact alloc_two b8, by rw [World.cell?_drew]; exact alloc_two b9, by rw [World.cell?_drew]; exact alloc_two d0, by rw [World.cell?_drew]; exact alloc_two d1, by rw [World.cell?_drew]; exact alloc_two p0, by rw [World.cell?_drew]; exact alloc_two p1, by rw [World.cell?_drew]; exact alloc_two q0, by rw [World.cell?_drew]; exact alloc_two q1, by rw [World.cell?_drew]; exact alloc_two c0, by rw [World.cell?_drew]; exact alloc_two c1, by rw [World.cell?_drew]; exact alloc_two c2, by rw [World.cell?_drew]; exact alloc_two c3, by rw [World.cell?_drew]; exact alloc_two c4, by rw [World.cell?_drew]; exact alloc_two c5, by rw [World.cell?_drew]; exact alloc_two c6, by rw [World.cell?_drew]; exact alloc_two c7, by rw [World.cell?_drew]; exact alloc_two c8, by rw [World.cell?_drew]; exact alloc_two c9, by (repeat (first | rw [World.cell?_drew] | rw [World.cell?_alloc_past _ _ _ (by first | (simp; done) | (simp; omega))])); rw [World.cell?_alloc_at _ _ _ _ (by simp)]; rfl, by (repeat (first | rw [World.cell?_drew] | rw [World.cell?_alloc_past _ _ _ (by first | (simp; done) | (simp; omega))])); rw [World.cell?_alloc_at _ _ _ _ (by simp)]; rfl, by (repeat (first | rw [World.cell?_drew] | rw [World.cell?_alloc_past _ _ _ (by first | (simp; done) | (simp; omega))])); rw [World.cell?_alloc_at _ _ _ _ (by simp)]; rfl, by (repeat (first | rw [World.cell?_drew] | rw [World.cell?_alloc_past _ _ _ (by first | (simp; done) | (simp; omega))])); rw [World.cell?_alloc_at _ _ _ _ (by simp)]; rfl, ((gg.alloc _ _).alloc _ _).drew⟩
      | (go_split_ands; exact ⟨kept_cell g (by assumption), kept_cell g (by assumption), kept_cell g (by assumption), kept_cell g (by assumption), kept_cell g (by assumption), kept_cell g (by assumption), kept_cell g (by assumption), kept_cell g (by assumption), kept_cell g (by assumption), kept_cell g (by assumption), kept_cell g (by assumption), kept_cell g (by assumption), kept_cell g (by assumption), kept_cell g (by assumption), kept_cell g (by assumption), kept_cell g (by assumption), kept_cell g (by assumption), kept_cell g (by assumption), kept_cell g (by assumption), kept_cell g (by assumption), kept_cell g (by assumption), kept_cell g (by assumption), kept_cell g (by assumption), kept_cell g (by assumption), kept_cell g (by assumption), kept_cell g (by assumption), kept_cell g (by assumption), kept_cell g (by assumption), kept_cell g (by assumption), kept_cell g (by assumption), grown_trans (by assumption) g⟩))
    (first
      | ((with_reducible refine (I1.out _).mono ?_); rintro e w' ⟨rfl, g⟩))
  go_wp2_with fail
  go_ret
  exact ⟨rfl, by go_split_ands; assumption⟩

theorem ends_all (k r ax ay m o px py vx vy dx dy : Int) (hd0 : -2147483648 ≤ dx ∧ dx < 2147483648) (hd1 : -2147483648 ≤ dy ∧ dy < 2147483648) (w : World) : Calls Try.prog 5 #[.agg #[.int .u32 k, .int .i32 r, .int .i32 ax, .int .i32 ay, .int .i32 m, .int .i32 o, .int .i32 px, .int .i32 py, .int .i32 vx, .int .i32 vy], .agg #[.int .i32 dx, .int .i32 dy]] w fun e w' => e = .returned (.bool true) ∧ Grown w w' := by
  by_cases h : chk r ax ay m o px py vx vy = 0
  · obtain ⟨h1, ⟨h2, h3⟩, h4, h5, ⟨h6, h7⟩, h8, h9⟩ := chk0 h
    by_cases i0 : -1000000000 ≤ dx ∧ dx ≤ 1000000000
    · by_cases i1 : -1000000000 ≤ dy ∧ dy ≤ 1000000000
      · refine ends_good k r ax ay m o px py vx vy dx dy (px - ax) (py - ay) (px + ax) (py + ay) (max ax (-ax) + r) (max ay (-ay) + r) (px + dx) (py + dy) (px - ax + dx) (py - ay + dy) (px + ax + dx) (py + ay + dy) (wrap32 (2 * px)) (wrap32 (2 * py)) ax ay (-ax) (-ay) (ax + r) (ay + r) (-ax + r) (-ay + r) _ _
          (Lib.hid body_awake) (Lib.hid (rck k r ax ay m o px py vx vy 0 h)) (Lib.hid (rin (by decide) (by decide) (decide_eq_true i0))) (Lib.hid (rin (by decide) (by decide) (decide_eq_true i1)))
          (congrArg wrap32 (by omega)) rfl (congrArg wrap32 (by omega)) rfl (by unfold wrap32; omega) (by unfold wrap32; omega) (by unfold wrap32; omega) (by unfold wrap32; omega) (by unfold wrap32; omega) (by unfold wrap32; omega) (by unfold wrap32; omega) (by unfold wrap32; omega) (by unfold wrap32; omega) (by unfold wrap32; omega) (by unfold wrap32; omega) (by unfold wrap32; omega) (decide_eq_false (by omega)) (decide_eq_false (by omega)) (decide_eq_false (by omega)) (decide_eq_false (by omega)) rfl rfl
          (Lib.hid (end_in k r ax ay m o px py vx vy _ _ _ _ h2 h3 (by omega) (by omega) rfl rfl rfl rfl)) (Lib.hid (ext_in k r ax ay m o px py vx vy _ _ h2 h3 h1 rfl rfl)) (Lib.hid (mov k r ax ay m o px py vx vy _ _ _ _ (by unfold wrap32; omega) (by unfold wrap32; omega)))
          (Lib.hid (end_in _ _ _ _ _ _ _ _ _ _ _ _ _ _ h2 h3 (by omega) (by omega) (by omega) (by omega) (by omega) (by omega))) (Lib.hid (cir k r ax ay m o px py vx vy _ ?_)) w
        rw [show (px - ax == px + ax) = decide (ax = 0) from decide_eq_decide.2 (by omega), show (py - ay == py + ay) = decide (ay = 0) from decide_eq_decide.2 (by omega)]
      · exact ends_out1 k r ax ay m o px py vx vy dx dy 0 (Lib.hid body_awake) (Lib.hid (rck k r ax ay m o px py vx vy 0 h)) rfl (Lib.hid (rin (by decide) (by decide) (decide_eq_true i0))) (Lib.hid (rin (by decide) (by decide) (decide_eq_false i1))) w
    · exact ends_out0 k r ax ay m o px py vx vy dx dy 0 (Lib.hid body_awake) (Lib.hid (rck k r ax ay m o px py vx vy 0 h)) rfl (Lib.hid (rin (by decide) (by decide) (decide_eq_false i0))) w
  · exact ends_bad k r ax ay m o px py vx vy dx dy _ (Lib.hid body_awake) (Lib.hid (rck k r ax ay m o px py vx vy _ rfl)) (by rw [bne_iff_ne]; exact h) w
end Go.Proofs.Ytjbhgjaklmpkjaa
