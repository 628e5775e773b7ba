/-
  Package contact: the law ContactMoves.
-/
import Derived.Test.YtlcenopebgkjgaaConCon
import Derived.Deep.DeepCutAuto
import Derived.Deep.QuietTactic
import Derived.BigQuiet
namespace Go.Proofs.Ytlcenopebgkjgaa
open Go.RowKit Go.Lib

set_option maxRecDepth 100000 in
set_option maxHeartbeats 2000000 in
theorem kvl_bad (AW : Hid QAwake) (x y : Bd) (vx vy : Int) (hr : rgtB x y = false) (w : World) : Calls Try.prog 6 #[.agg #[.int .u32 x.k, .int .i32 x.r, .int .i32 x.ax, .int .i32 x.ay, .int .i32 x.m, .int .i32 x.o, .int .i32 x.px, .int .i32 x.py, .int .i32 x.vx, .int .i32 x.vy], .agg #[.int .u32 y.k, .int .i32 y.r, .int .i32 y.ax, .int .i32 y.ay, .int .i32 y.m, .int .i32 y.o, .int .i32 y.px, .int .i32 y.py, .int .i32 y.vx, .int .i32 y.vy], .agg #[.int .i32 vx, .int .i32 vy]] w fun e w' => e = .returned (.bool true) ∧ Kep w.heap.size w w' := by
  have RR := Lib.hid (krr x y false hr)
  clear hr
  go_enter Try.func6, Try.ntmps6
  go_wp2_with (first
    | ((with_reducible refine (AW.out _).mono ?_); rintro e w1 ⟨rfl, g1⟩
       first
         | (replace gg := kep_next gg g1)
         | (have x0 := Kep.all g1 (a := ⟨w.heap.size, 0, none⟩) (v := .int .u32 x.k) (by (repeat (first | rw [World.cell?_drew] | rw [World.cell?_alloc_past _ _ _ (by first | (simp; done) | (simp; omega))])); rw [World.cell?_alloc_at _ _ _ _ (by simp)]; rfl)
            have x1 := Kep.all g1 (a := ⟨w.heap.size, 1, none⟩) (v := .int .i32 x.r) (by (repeat (first | rw [World.cell?_drew] | rw [World.cell?_alloc_past _ _ _ (by first | (simp; done) | (simp; omega))])); rw [World.cell?_alloc_at _ _ _ _ (by simp)]; rfl)
            have x2 := Kep.all g1 (a := ⟨w.heap.size, 2, none⟩) (v := .int .i32 x.ax) (by (repeat (first | rw [World.cell?_drew] | rw [World.cell?_alloc_past _ _ _ (by first | (simp; done) | (simp; omega))])); rw [World.cell?_alloc_at _ _ _ _ (by simp)]; rfl)
            have x3 := Kep.all g1 (a := ⟨w.heap.size, 3, none⟩) (v := .int .i32 x.ay) (by (repeat (first | rw [World.cell?_drew] | rw [World.cell?_alloc_past _ _ _ (by first | (simp; done) | (simp; omega))])); rw [World.cell?_alloc_at _ _ _ _ (by simp)]; rfl)
            have x4 := Kep.all g1 (a := ⟨w.heap.size, 4, none⟩) (v := .int .i32 x.m) (by (repeat (first | rw [World.cell?_drew] | rw [World.cell?_alloc_past _ _ _ (by first | (simp; done) | (simp; omega))])); rw [World.cell?_alloc_at _ _ _ _ (by simp)]; rfl)
            have x5 := Kep.all g1 (a := ⟨w.heap.size, 5, none⟩) (v := .int .i32 x.o) (by (repeat (first | rw [World.cell?_drew] | rw [World.cell?_alloc_past _ _ _ (by first | (simp; done) | (simp; omega))])); rw [World.cell?_alloc_at _ _ _ _ (by simp)]; rfl)
            have x6 := Kep.all g1 (a := ⟨w.heap.size, 6, none⟩) (v := .int .i32 x.px) (by (repeat (first | rw [World.cell?_drew] | rw [World.cell?_alloc_past _ _ _ (by first | (simp; done) | (simp; omega))])); rw [World.cell?_alloc_at _ _ _ _ (by simp)]; rfl)
            have x7 := Kep.all g1 (a := ⟨w.heap.size, 7, none⟩) (v := .int .i32 x.py) (by (repeat (first | rw [World.cell?_drew] | rw [World.cell?_alloc_past _ _ _ (by first | (simp; done) | (simp; omega))])); rw [World.cell?_alloc_at _ _ _ _ (by simp)]; rfl)
            have x8 := Kep.all g1 (a := ⟨w.heap.size, 8, none⟩) (v := .int .i32 x.vx) (by (repeat (first | rw [World.cell?_drew] | rw [World.cell?_alloc_past _ _ _ (by first | (simp; done) | (simp; omega))])); rw [World.cell?_alloc_at _ _ _ _ (by simp)]; rfl)
            have x9 := Kep.all g1 (a := ⟨w.heap.size, 9, none⟩) (v := .int .i32 x.vy) (by (repeat (first | rw [World.cell?_drew] | rw [World.cell?_alloc_past _ _ _ (by first | (simp; done) | (simp; omega))])); rw [World.cell?_alloc_at _ _ _ _ (by simp)]; rfl)
            have y0 := Kep.all g1 (a := ⟨w.heap.size + 1, 0, none⟩) (v := .int .u32 y.k) (by (repeat (first | rw [World.cell?_drew] | rw [World.cell?_alloc_past _ _ _ (by first | (simp; done) | (simp; omega))])); rw [World.cell?_alloc_at _ _ _ _ (by simp)]; rfl)
            have y1 := Kep.all g1 (a := ⟨w.heap.size + 1, 1, none⟩) (v := .int .i32 y.r) (by (repeat (first | rw [World.cell?_drew] | rw [World.cell?_alloc_past _ _ _ (by first | (simp; done) | (simp; omega))])); rw [World.cell?_alloc_at _ _ _ _ (by simp)]; rfl)
            have y2 := Kep.all g1 (a := ⟨w.heap.size + 1, 2, none⟩) (v := .int .i32 y.ax) (by (repeat (first | rw [World.cell?_drew] | rw [World.cell?_alloc_past _ _ _ (by first | (simp; done) | (simp; omega))])); rw [World.cell?_alloc_at _ _ _ _ (by simp)]; rfl)
            have y3 := Kep.all g1 (a := ⟨w.heap.size + 1, 3, none⟩) (v := .int .i32 y.ay) (by (repeat (first | rw [World.cell?_drew] | rw [World.cell?_alloc_past _ _ _ (by first | (simp; done) | (simp; omega))])); rw [World.cell?_alloc_at _ _ _ _ (by simp)]; rfl)
            have y4 := Kep.all g1 (a := ⟨w.heap.size + 1, 4, none⟩) (v := .int .i32 y.m) (by (repeat (first | rw [World.cell?_drew] | rw [World.cell?_alloc_past _ _ _ (by first | (simp; done) | (simp; omega))])); rw [World.cell?_alloc_at _ _ _ _ (by simp)]; rfl)
            have y5 := Kep.all g1 (a := ⟨w.heap.size + 1, 5, none⟩) (v := .int .i32 y.o) (by (repeat (first | rw [World.cell?_drew] | rw [World.cell?_alloc_past _ _ _ (by first | (simp; done) | (simp; omega))])); rw [World.cell?_alloc_at _ _ _ _ (by simp)]; rfl)
            have y6 := Kep.all g1 (a := ⟨w.heap.size + 1, 6, none⟩) (v := .int .i32 y.px) (by (repeat (first | rw [World.cell?_drew] | rw [World.cell?_alloc_past _ _ _ (by first | (simp; done) | (simp; omega))])); rw [World.cell?_alloc_at _ _ _ _ (by simp)]; rfl)
            have y7 := Kep.all g1 (a := ⟨w.heap.size + 1, 7, none⟩) (v := .int .i32 y.py) (by (repeat (first | rw [World.cell?_drew] | rw [World.cell?_alloc_past _ _ _ (by first | (simp; done) | (simp; omega))])); rw [World.cell?_alloc_at _ _ _ _ (by simp)]; rfl)
            have y8 := Kep.all g1 (a := ⟨w.heap.size + 1, 8, none⟩) (v := .int .i32 y.vx) (by (repeat (first | rw [World.cell?_drew] | rw [World.cell?_alloc_past _ _ _ (by first | (simp; done) | (simp; omega))])); rw [World.cell?_alloc_at _ _ _ _ (by simp)]; rfl)
            have y9 := Kep.all g1 (a := ⟨w.heap.size + 1, 9, none⟩) (v := .int .i32 y.vy) (by (repeat (first | rw [World.cell?_drew] | rw [World.cell?_alloc_past _ _ _ (by first | (simp; done) | (simp; omega))])); rw [World.cell?_alloc_at _ _ _ _ (by simp)]; rfl)
            have d0 := Kep.all g1 (a := ⟨w.heap.size + 1 + 1, 0, none⟩) (v := .int .i32 vx) (by (repeat (first | rw [World.cell?_drew] | rw [World.cell?_alloc_past _ _ _ (by first | (simp; done) | (simp; omega))])); rw [World.cell?_alloc_at _ _ _ _ (by simp)]; rfl)
            have d1 := Kep.all g1 (a := ⟨w.heap.size + 1 + 1, 1, none⟩) (v := .int .i32 vy) (by (repeat (first | rw [World.cell?_drew] | rw [World.cell?_alloc_past _ _ _ (by first | (simp; done) | (simp; omega))])); rw [World.cell?_alloc_at _ _ _ _ (by simp)]; rfl)
            have gg := kep_next (kep_more (kep_more (kep_more (Kep.refl _ _) _) _) _) g1
            have zx_w1 : w.heap.size < w1.heap.size := World.block_lt_of_cell? _ _ x0
            have zy_w1 : w.heap.size + 1 < w1.heap.size := World.block_lt_of_cell? _ _ y0
            have zd_w1 : w.heap.size + 1 + 1 < w1.heap.size := World.block_lt_of_cell? _ _ d0))
    | ((with_reducible refine (RR.out _).mono ?_); rintro e w2 ⟨rfl, g2⟩
       replace x0 := Kep.all g2 (a := ⟨w.heap.size, 0, none⟩) (v := .int .u32 x.k) x0
       replace x1 := Kep.all g2 (a := ⟨w.heap.size, 1, none⟩) (v := .int .i32 x.r) x1
       replace x2 := Kep.all g2 (a := ⟨w.heap.size, 2, none⟩) (v := .int .i32 x.ax) x2
       replace x3 := Kep.all g2 (a := ⟨w.heap.size, 3, none⟩) (v := .int .i32 x.ay) x3
       replace x4 := Kep.all g2 (a := ⟨w.heap.size, 4, none⟩) (v := .int .i32 x.m) x4
       replace x5 := Kep.all g2 (a := ⟨w.heap.size, 5, none⟩) (v := .int .i32 x.o) x5
       replace x6 := Kep.all g2 (a := ⟨w.heap.size, 6, none⟩) (v := .int .i32 x.px) x6
       replace x7 := Kep.all g2 (a := ⟨w.heap.size, 7, none⟩) (v := .int .i32 x.py) x7
       replace x8 := Kep.all g2 (a := ⟨w.heap.size, 8, none⟩) (v := .int .i32 x.vx) x8
       replace x9 := Kep.all g2 (a := ⟨w.heap.size, 9, none⟩) (v := .int .i32 x.vy) x9
       replace y0 := Kep.all g2 (a := ⟨w.heap.size + 1, 0, none⟩) (v := .int .u32 y.k) y0
       replace y1 := Kep.all g2 (a := ⟨w.heap.size + 1, 1, none⟩) (v := .int .i32 y.r) y1
       replace y2 := Kep.all g2 (a := ⟨w.heap.size + 1, 2, none⟩) (v := .int .i32 y.ax) y2
       replace y3 := Kep.all g2 (a := ⟨w.heap.size + 1, 3, none⟩) (v := .int .i32 y.ay) y3
       replace y4 := Kep.all g2 (a := ⟨w.heap.size + 1, 4, none⟩) (v := .int .i32 y.m) y4
       replace y5 := Kep.all g2 (a := ⟨w.heap.size + 1, 5, none⟩) (v := .int .i32 y.o) y5
       replace y6 := Kep.all g2 (a := ⟨w.heap.size + 1, 6, none⟩) (v := .int .i32 y.px) y6
       replace y7 := Kep.all g2 (a := ⟨w.heap.size + 1, 7, none⟩) (v := .int .i32 y.py) y7
       replace y8 := Kep.all g2 (a := ⟨w.heap.size + 1, 8, none⟩) (v := .int .i32 y.vx) y8
       replace y9 := Kep.all g2 (a := ⟨w.heap.size + 1, 9, none⟩) (v := .int .i32 y.vy) y9
       replace d0 := Kep.all g2 (a := ⟨w.heap.size + 1 + 1, 0, none⟩) (v := .int .i32 vx) d0
       replace d1 := Kep.all g2 (a := ⟨w.heap.size + 1 + 1, 1, none⟩) (v := .int .i32 vy) d1
       replace gg := kep_next gg g2
       have zx_w2 : w.heap.size < w2.heap.size := World.block_lt_of_cell? _ _ x0
       have zy_w2 : w.heap.size + 1 < w2.heap.size := World.block_lt_of_cell? _ _ y0
       have zd_w2 : w.heap.size + 1 + 1 < w2.heap.size := World.block_lt_of_cell? _ _ d0))
  go_ret
  exact ⟨rfl, gg⟩
set_option maxRecDepth 100000 in
set_option maxHeartbeats 2000000 in
theorem kvl_o1 (AW : Hid QAwake) (x y : Bd) (vx vy : Int) (RR : Hid (KRr x y true)) (I1 : Hid (∀ w, Calls Try.prog 17 #[.int .i32 vx, .int .i32 1000000000] w fun e w' => e = .returned (.bool false) ∧ w = w')) (w : World) : Calls Try.prog 6 #[.agg #[.int .u32 x.k, .int .i32 x.r, .int .i32 x.ax, .int .i32 x.ay, .int .i32 x.m, .int .i32 x.o, .int .i32 x.px, .int .i32 x.py, .int .i32 x.vx, .int .i32 x.vy], .agg #[.int .u32 y.k, .int .i32 y.r, .int .i32 y.ax, .int .i32 y.ay, .int .i32 y.m, .int .i32 y.o, .int .i32 y.px, .int .i32 y.py, .int .i32 y.vx, .int .i32 y.vy], .agg #[.int .i32 vx, .int .i32 vy]] w fun e w' => e = .returned (.bool true) ∧ Kep w.heap.size w w' := by
  go_enter Try.func6, Try.ntmps6
  go_wp2_with (first
    | ((with_reducible refine (AW.out _).mono ?_); rintro e w1 ⟨rfl, g1⟩
       first
         | (replace gg := kep_next gg g1)
         | (have x0 := Kep.all g1 (a := ⟨w.heap.size, 0, none⟩) (v := .int .u32 x.k) (by (repeat (first | rw [World.cell?_drew] | rw [World.cell?_alloc_past _ _ _ (by first | (simp; done) | (simp; omega))])); rw [World.cell?_alloc_at _ _ _ _ (by simp)]; rfl)
            have x1 := Kep.all g1 (a := ⟨w.heap.size, 1, none⟩) (v := .int .i32 x.r) (by (repeat (first | rw [World.cell?_drew] | rw [World.cell?_alloc_past _ _ _ (by first | (simp; done) | (simp; omega))])); rw [World.cell?_alloc_at _ _ _ _ (by simp)]; rfl)
            have x2 := Kep.all g1 (a := ⟨w.heap.size, 2, none⟩) (v := .int .i32 x.ax) (by (repeat (first | rw [World.cell?_drew] | rw [World.cell?_alloc_past _ _ _ (by first | (simp; done) | (simp; omega))])); rw [World.cell?_alloc_at _ _ _ _ (by simp)]; rfl)
            have x3 := Kep.all g1 (a := ⟨w.heap.size, 3, none⟩) (v := .int .i32 x.ay) (by (repeat (first | rw [World.cell?_drew] | rw [World.cell?_alloc_past _ _ _ (by first | (simp; done) | (simp; omega))])); rw [World.cell?_alloc_at _ _ _ _ (by simp)]; rfl)
            have x4 := Kep.all g1 (a := ⟨w.heap.size, 4, none⟩) (v := .int .i32 x.m) (by (repeat (first | rw [World.cell?_drew] | rw [World.cell?_alloc_past _ _ _ (by first | (simp; done) | (simp; omega))])); rw [World.cell?_alloc_at _ _ _ _ (by simp)]; rfl)
            have x5 := Kep.all g1 (a := ⟨w.heap.size, 5, none⟩) (v := .int .i32 x.o) (by (repeat (first | rw [World.cell?_drew] | rw [World.cell?_alloc_past _ _ _ (by first | (simp; done) | (simp; omega))])); rw [World.cell?_alloc_at _ _ _ _ (by simp)]; rfl)
            have x6 := Kep.all g1 (a := ⟨w.heap.size, 6, none⟩) (v := .int .i32 x.px) (by (repeat (first | rw [World.cell?_drew] | rw [World.cell?_alloc_past _ _ _ (by first | (simp; done) | (simp; omega))])); rw [World.cell?_alloc_at _ _ _ _ (by simp)]; rfl)
            have x7 := Kep.all g1 (a := ⟨w.heap.size, 7, none⟩) (v := .int .i32 x.py) (by (repeat (first | rw [World.cell?_drew] | rw [World.cell?_alloc_past _ _ _ (by first | (simp; done) | (simp; omega))])); rw [World.cell?_alloc_at _ _ _ _ (by simp)]; rfl)
            have x8 := Kep.all g1 (a := ⟨w.heap.size, 8, none⟩) (v := .int .i32 x.vx) (by (repeat (first | rw [World.cell?_drew] | rw [World.cell?_alloc_past _ _ _ (by first | (simp; done) | (simp; omega))])); rw [World.cell?_alloc_at _ _ _ _ (by simp)]; rfl)
            have x9 := Kep.all g1 (a := ⟨w.heap.size, 9, none⟩) (v := .int .i32 x.vy) (by (repeat (first | rw [World.cell?_drew] | rw [World.cell?_alloc_past _ _ _ (by first | (simp; done) | (simp; omega))])); rw [World.cell?_alloc_at _ _ _ _ (by simp)]; rfl)
            have y0 := Kep.all g1 (a := ⟨w.heap.size + 1, 0, none⟩) (v := .int .u32 y.k) (by (repeat (first | rw [World.cell?_drew] | rw [World.cell?_alloc_past _ _ _ (by first | (simp; done) | (simp; omega))])); rw [World.cell?_alloc_at _ _ _ _ (by simp)]; rfl)
            have y1 := Kep.all g1 (a := ⟨w.heap.size + 1, 1, none⟩) (v := .int .i32 y.r) (by (repeat (first | rw [World.cell?_drew] | rw [World.cell?_alloc_past _ _ _ (by first | (simp; done) | (simp; omega))])); rw [World.cell?_alloc_at _ _ _ _ (by simp)]; rfl)
            have y2 := Kep.all g1 (a := ⟨w.heap.size + 1, 2, none⟩) (v := .int .i32 y.ax) (by (repeat (first | rw [World.cell?_drew] | rw [World.cell?_alloc_past _ _ _ (by first | (simp; done) | (simp; omega))])); rw [World.cell?_alloc_at _ _ _ _ (by simp)]; rfl)
            have y3 := Kep.all g1 (a := ⟨w.heap.size + 1, 3, none⟩) (v := .int .i32 y.ay) (by (repeat (first | rw [World.cell?_drew] | rw [World.cell?_alloc_past _ _ _ (by first | (simp; done) | (simp; omega))])); rw [World.cell?_alloc_at _ _ _ _ (by simp)]; rfl)
            have y4 := Kep.all g1 (a := ⟨w.heap.size + 1, 4, none⟩) (v := .int .i32 y.m) (by (repeat (first | rw [World.cell?_drew] | rw [World.cell?_alloc_past _ _ _ (by first | (simp; done) | (simp; omega))])); rw [World.cell?_alloc_at _ _ _ _ (by simp)]; rfl)
            have y5 := Kep.all g1 (a := ⟨w.heap.size + 1, 5, none⟩) (v := .int .i32 y.o) (by (repeat (first | rw [World.cell?_drew] | rw [World.cell?_alloc_past _ _ _ (by first | (simp; done) | (simp; omega))])); rw [World.cell?_alloc_at _ _ _ _ (by simp)]; rfl)
            have y6 := Kep.all g1 (a := ⟨w.heap.size + 1, 6, none⟩) (v := .int .i32 y.px) (by (repeat (first | rw [World.cell?_drew] | rw [World.cell?_alloc_past _ _ _ (by first | (simp; done) | (simp; omega))])); rw [World.cell?_alloc_at _ _ _ _ (by simp)]; rfl)
            have y7 := Kep.all g1 (a := ⟨w.heap.size + 1, 7, none⟩) (v := .int .i32 y.py) (by (repeat (first | rw [World.cell?_drew] | rw [World.cell?_alloc_past _ _ _ (by first | (simp; done) | (simp; omega))])); rw [World.cell?_alloc_at _ _ _ _ (by simp)]; rfl)
            have y8 := Kep.all g1 (a := ⟨w.heap.size + 1, 8, none⟩) (v := .int .i32 y.vx) (by (repeat (first | rw [World.cell?_drew] | rw [World.cell?_alloc_past _ _ _ (by first | (simp; done) | (simp; omega))])); rw [World.cell?_alloc_at _ _ _ _ (by simp)]; rfl)
            have y9 := Kep.all g1 (a := ⟨w.heap.size + 1, 9, none⟩) (v := .int .i32 y.vy) (by (repeat (first | rw [World.cell?_drew] | rw [World.cell?_alloc_past _ _ _ (by first | (simp; done) | (simp; omega))])); rw [World.cell?_alloc_at _ _ _ _ (by simp)]; rfl)
            have d0 := Kep.all g1 (a := ⟨w.heap.size + 1 + 1, 0, none⟩) (v := .int .i32 vx) (by (repeat (first | rw [World.cell?_drew] | rw [World.cell?_alloc_past _ _ _ (by first | (simp; done) | (simp; omega))])); rw [World.cell?_alloc_at _ _ _ _ (by simp)]; rfl)
            have d1 := Kep.all g1 (a := ⟨w.heap.size + 1 + 1, 1, none⟩) (v := .int .i32 vy) (by (repeat (first | rw [World.cell?_drew] | rw [World.cell?_alloc_past _ _ _ (by first | (simp; done) | (simp; omega))])); rw [World.cell?_alloc_at _ _ _ _ (by simp)]; rfl)
            have gg := kep_next (kep_more (kep_more (kep_more (Kep.refl _ _) _) _) _) g1
            have zx_w1 : w.heap.size < w1.heap.size := World.block_lt_of_cell? _ _ x0
            have zy_w1 : w.heap.size + 1 < w1.heap.size := World.block_lt_of_cell? _ _ y0
            have zd_w1 : w.heap.size + 1 + 1 < w1.heap.size := World.block_lt_of_cell? _ _ d0))
    | ((with_reducible refine (RR.out _).mono ?_); rintro e w2 ⟨rfl, g2⟩
       replace x0 := Kep.all g2 (a := ⟨w.heap.size, 0, none⟩) (v := .int .u32 x.k) x0
       replace x1 := Kep.all g2 (a := ⟨w.heap.size, 1, none⟩) (v := .int .i32 x.r) x1
       replace x2 := Kep.all g2 (a := ⟨w.heap.size, 2, none⟩) (v := .int .i32 x.ax) x2
       replace x3 := Kep.all g2 (a := ⟨w.heap.size, 3, none⟩) (v := .int .i32 x.ay) x3
       replace x4 := Kep.all g2 (a := ⟨w.heap.size, 4, none⟩) (v := .int .i32 x.m) x4
       replace x5 := Kep.all g2 (a := ⟨w.heap.size, 5, none⟩) (v := .int .i32 x.o) x5
       replace x6 := Kep.all g2 (a := ⟨w.heap.size, 6, none⟩) (v := .int .i32 x.px) x6
       replace x7 := Kep.all g2 (a := ⟨w.heap.size, 7, none⟩) (v := .int .i32 x.py) x7
       replace x8 := Kep.all g2 (a := ⟨w.heap.size, 8, none⟩) (v := .int .i32 x.vx) x8
       replace x9 := Kep.all g2 (a := ⟨w.heap.size, 9, none⟩) (v := .int .i32 x.vy) x9
       replace y0 := Kep.all g2 (a := ⟨w.heap.size + 1, 0, none⟩) (v := .int .u32 y.k) y0
       replace y1 := Kep.all g2 (a := ⟨w.heap.size + 1, 1, none⟩) (v := .int .i32 y.r) y1
       replace y2 := Kep.all g2 (a := ⟨w.heap.size + 1, 2, none⟩) (v := .int .i32 y.ax) y2
       replace y3 := Kep.all g2 (a := ⟨w.heap.size + 1, 3, none⟩) (v := .int .i32 y.ay) y3
       replace y4 := Kep.all g2 (a := ⟨w.heap.size + 1, 4, none⟩) (v := .int .i32 y.m) y4
       replace y5 := Kep.all g2 (a := ⟨w.heap.size + 1, 5, none⟩) (v := .int .i32 y.o) y5
       replace y6 := Kep.all g2 (a := ⟨w.heap.size + 1, 6, none⟩) (v := .int .i32 y.px) y6
       replace y7 := Kep.all g2 (a := ⟨w.heap.size + 1, 7, none⟩) (v := .int .i32 y.py) y7
       replace y8 := Kep.all g2 (a := ⟨w.heap.size + 1, 8, none⟩) (v := .int .i32 y.vx) y8
       replace y9 := Kep.all g2 (a := ⟨w.heap.size + 1, 9, none⟩) (v := .int .i32 y.vy) y9
       replace d0 := Kep.all g2 (a := ⟨w.heap.size + 1 + 1, 0, none⟩) (v := .int .i32 vx) d0
       replace d1 := Kep.all g2 (a := ⟨w.heap.size + 1 + 1, 1, none⟩) (v := .int .i32 vy) d1
       replace gg := kep_next gg g2
       have zx_w2 : w.heap.size < w2.heap.size := World.block_lt_of_cell? _ _ x0
       have zy_w2 : w.heap.size + 1 < w2.heap.size := World.block_lt_of_cell? _ _ y0
       have zd_w2 : w.heap.size + 1 + 1 < w2.heap.size := World.block_lt_of_cell? _ _ d0)
    | ((with_reducible refine (I1.out _).mono ?_); rintro e w' ⟨rfl, rfl⟩))
  go_ret
  exact ⟨rfl, gg⟩
set_option maxRecDepth 100000 in
set_option maxHeartbeats 2000000 in
theorem kvl_o2 (AW : Hid QAwake) (x y : Bd) (vx vy : Int) (RR : Hid (KRr x y true)) (I1 : Hid (∀ w, Calls Try.prog 17 #[.int .i32 vx, .int .i32 1000000000] w fun e w' => e = .returned (.bool true) ∧ w = w')) (I2 : Hid (∀ w, Calls Try.prog 17 #[.int .i32 vy, .int .i32 1000000000] w fun e w' => e = .returned (.bool false) ∧ w = w')) (w : World) : Calls Try.prog 6 #[.agg #[.int .u32 x.k, .int .i32 x.r, .int .i32 x.ax, .int .i32 x.ay, .int .i32 x.m, .int .i32 x.o, .int .i32 x.px, .int .i32 x.py, .int .i32 x.vx, .int .i32 x.vy], .agg #[.int .u32 y.k, .int .i32 y.r, .int .i32 y.ax, .int .i32 y.ay, .int .i32 y.m, .int .i32 y.o, .int .i32 y.px, .int .i32 y.py, .int .i32 y.vx, .int .i32 y.vy], .agg #[.int .i32 vx, .int .i32 vy]] w fun e w' => e = .returned (.bool true) ∧ Kep w.heap.size w w' := by
  go_enter Try.func6, Try.ntmps6
  go_wp2_with (first
    | ((with_reducible refine (AW.out _).mono ?_); rintro e w1 ⟨rfl, g1⟩
       first
         | (replace gg := kep_next gg g1)
         | (have x0 := Kep.all g1 (a := ⟨w.heap.size, 0, none⟩) (v := .int .u32 x.k) (by (repeat (first | rw [World.cell?_drew] | rw [World.cell?_alloc_past _ _ _ (by first | (simp; done) | (simp; omega))])); rw [World.cell?_alloc_at _ _ _ _ (by simp)]; rfl)
            have x1 := Kep.all g1 (a := ⟨w.heap.size, 1, none⟩) (v := .int .i32 x.r) (by (repeat (first | rw [World.cell?_drew] | rw [World.cell?_alloc_past _ _ _ (by first | (simp; done) | (simp; omega))])); rw [World.cell?_alloc_at _ _ _ _ (by simp)]; rfl)
            have x2 := Kep.all g1 (a := ⟨w.heap.size, 2, none⟩) (v := .int .i32 x.ax) (by (repeat (first | rw [World.cell?_drew] | rw [World.cell?_alloc_past _ _ _ (by first | (simp; done) | (simp; omega))])); rw [World.cell?_alloc_at _ _ _ _ (by simp)]; rfl)
            have x3 := Kep.all g1 (a := ⟨w.heap.size, 3, none⟩) (v := .int .i32 x.ay) (by (repeat (first | rw [World.cell?_drew] | rw [World.cell?_alloc_past _ _ _ (by first | (simp; done) | (simp; omega))])); rw [World.cell?_alloc_at _ _ _ _ (by simp)]; rfl)
            have x4 := Kep.all g1 (a := ⟨w.heap.size, 4, none⟩) (v := .int .i32 x.m) (by (repeat (first | rw [World.cell?_drew] | rw [World.cell?_alloc_past _ _ _ (by first | (simp; done) | (simp; omega))])); rw [World.cell?_alloc_at _ _ _ _ (by simp)]; rfl)
            have x5 := Kep.all g1 (a := ⟨w.heap.size, 5, none⟩) (v := .int .i32 x.o) (by (repeat (first | rw [World.cell?_drew] | rw [World.cell?_alloc_past _ _ _ (by first | (simp; done) | (simp; omega))])); rw [World.cell?_alloc_at _ _ _ _ (by simp)]; rfl)
            have x6 := Kep.all g1 (a := ⟨w.heap.size, 6, none⟩) (v := .int .i32 x.px) (by (repeat (first | rw [World.cell?_drew] | rw [World.cell?_alloc_past _ _ _ (by first | (simp; done) | (simp; omega))])); rw [World.cell?_alloc_at _ _ _ _ (by simp)]; rfl)
            have x7 := Kep.all g1 (a := ⟨w.heap.size, 7, none⟩) (v := .int .i32 x.py) (by (repeat (first | rw [World.cell?_drew] | rw [World.cell?_alloc_past _ _ _ (by first | (simp; done) | (simp; omega))])); rw [World.cell?_alloc_at _ _ _ _ (by simp)]; rfl)
            have x8 := Kep.all g1 (a := ⟨w.heap.size, 8, none⟩) (v := .int .i32 x.vx) (by (repeat (first | rw [World.cell?_drew] | rw [World.cell?_alloc_past _ _ _ (by first | (simp; done) | (simp; omega))])); rw [World.cell?_alloc_at _ _ _ _ (by simp)]; rfl)
            have x9 := Kep.all g1 (a := ⟨w.heap.size, 9, none⟩) (v := .int .i32 x.vy) (by (repeat (first | rw [World.cell?_drew] | rw [World.cell?_alloc_past _ _ _ (by first | (simp; done) | (simp; omega))])); rw [World.cell?_alloc_at _ _ _ _ (by simp)]; rfl)
            have y0 := Kep.all g1 (a := ⟨w.heap.size + 1, 0, none⟩) (v := .int .u32 y.k) (by (repeat (first | rw [World.cell?_drew] | rw [World.cell?_alloc_past _ _ _ (by first | (simp; done) | (simp; omega))])); rw [World.cell?_alloc_at _ _ _ _ (by simp)]; rfl)
            have y1 := Kep.all g1 (a := ⟨w.heap.size + 1, 1, none⟩) (v := .int .i32 y.r) (by (repeat (first | rw [World.cell?_drew] | rw [World.cell?_alloc_past _ _ _ (by first | (simp; done) | (simp; omega))])); rw [World.cell?_alloc_at _ _ _ _ (by simp)]; rfl)
            have y2 := Kep.all g1 (a := ⟨w.heap.size + 1, 2, none⟩) (v := .int .i32 y.ax) (by (repeat (first | rw [World.cell?_drew] | rw [World.cell?_alloc_past _ _ _ (by first | (simp; done) | (simp; omega))])); rw [World.cell?_alloc_at _ _ _ _ (by simp)]; rfl)
            have y3 := Kep.all g1 (a := ⟨w.heap.size + 1, 3, none⟩) (v := .int .i32 y.ay) (by (repeat (first | rw [World.cell?_drew] | rw [World.cell?_alloc_past _ _ _ (by first | (simp; done) | (simp; omega))])); rw [World.cell?_alloc_at _ _ _ _ (by simp)]; rfl)
            have y4 := Kep.all g1 (a := ⟨w.heap.size + 1, 4, none⟩) (v := .int .i32 y.m) (by (repeat (first | rw [World.cell?_drew] | rw [World.cell?_alloc_past _ _ _ (by first | (simp; done) | (simp; omega))])); rw [World.cell?_alloc_at _ _ _ _ (by simp)]; rfl)
            have y5 := Kep.all g1 (a := ⟨w.heap.size + 1, 5, none⟩) (v := .int .i32 y.o) (by (repeat (first | rw [World.cell?_drew] | rw [World.cell?_alloc_past _ _ _ (by first | (simp; done) | (simp; omega))])); rw [World.cell?_alloc_at _ _ _ _ (by simp)]; rfl)
            have y6 := Kep.all g1 (a := ⟨w.heap.size + 1, 6, none⟩) (v := .int .i32 y.px) (by (repeat (first | rw [World.cell?_drew] | rw [World.cell?_alloc_past _ _ _ (by first | (simp; done) | (simp; omega))])); rw [World.cell?_alloc_at _ _ _ _ (by simp)]; rfl)
            have y7 := Kep.all g1 (a := ⟨w.heap.size + 1, 7, none⟩) (v := .int .i32 y.py) (by (repeat (first | rw [World.cell?_drew] | rw [World.cell?_alloc_past _ _ _ (by first | (simp; done) | (simp; omega))])); rw [World.cell?_alloc_at _ _ _ _ (by simp)]; rfl)
            have y8 := Kep.all g1 (a := ⟨w.heap.size + 1, 8, none⟩) (v := .int .i32 y.vx) (by (repeat (first | rw [World.cell?_drew] | rw [World.cell?_alloc_past _ _ _ (by first | (simp; done) | (simp; omega))])); rw [World.cell?_alloc_at _ _ _ _ (by simp)]; rfl)
            have y9 := Kep.all g1 (a := ⟨w.heap.size + 1, 9, none⟩) (v := .int .i32 y.vy) (by (repeat (first | rw [World.cell?_drew] | rw [World.cell?_alloc_past _ _ _ (by first | (simp; done) | (simp; omega))])); rw [World.cell?_alloc_at _ _ _ _ (by simp)]; rfl)
            have d0 := Kep.all g1 (a := ⟨w.heap.size + 1 + 1, 0, none⟩) (v := .int .i32 vx) (by (repeat (first | rw [World.cell?_drew] | rw [World.cell?_alloc_past _ _ _ (by first | (simp; done) | (simp; omega))])); rw [World.cell?_alloc_at _ _ _ _ (by simp)]; rfl)
            have d1 := Kep.all g1 (a := ⟨w.heap.size + 1 + 1, 1, none⟩) (v := .int .i32 vy) (by (repeat (first | rw [World.cell?_drew] | rw [World.cell?_alloc_past _ _ _ (by first | (simp; done) | (simp; omega))])); rw [World.cell?_alloc_at _ _ _ _ (by simp)]; rfl)
            have gg := kep_next (kep_more (kep_more (kep_more (Kep.refl _ _) _) _) _) g1
            have zx_w1 : w.heap.size < w1.heap.size := World.block_lt_of_cell? _ _ x0
            have zy_w1 : w.heap.size + 1 < w1.heap.size := World.block_lt_of_cell? _ _ y0
            have zd_w1 : w.heap.size + 1 + 1 < w1.heap.size := World.block_lt_of_cell? _ _ d0))
    | ((with_reducible refine (RR.out _).mono ?_); rintro e w2 ⟨rfl, g2⟩
       replace x0 := Kep.all g2 (a := ⟨w.heap.size, 0, none⟩) (v := .int .u32 x.k) x0
       replace x1 := Kep.all g2 (a := ⟨w.heap.size, 1, none⟩) (v := .int .i32 x.r) x1
       replace x2 := Kep.all g2 (a := ⟨w.heap.size, 2, none⟩) (v := .int .i32 x.ax) x2
       replace x3 := Kep.all g2 (a := ⟨w.heap.size, 3, none⟩) (v := .int .i32 x.ay) x3
       replace x4 := Kep.all g2 (a := ⟨w.heap.size, 4, none⟩) (v := .int .i32 x.m) x4
       replace x5 := Kep.all g2 (a := ⟨w.heap.size, 5, none⟩) (v := .int .i32 x.o) x5
       replace x6 := Kep.all g2 (a := ⟨w.heap.size, 6, none⟩) (v := .int .i32 x.px) x6
       replace x7 := Kep.all g2 (a := ⟨w.heap.size, 7, none⟩) (v := .int .i32 x.py) x7
       replace x8 := Kep.all g2 (a := ⟨w.heap.size, 8, none⟩) (v := .int .i32 x.vx) x8
       replace x9 := Kep.all g2 (a := ⟨w.heap.size, 9, none⟩) (v := .int .i32 x.vy) x9
       replace y0 := Kep.all g2 (a := ⟨w.heap.size + 1, 0, none⟩) (v := .int .u32 y.k) y0
       replace y1 := Kep.all g2 (a := ⟨w.heap.size + 1, 1, none⟩) (v := .int .i32 y.r) y1
       replace y2 := Kep.all g2 (a := ⟨w.heap.size + 1, 2, none⟩) (v := .int .i32 y.ax) y2
       replace y3 := Kep.all g2 (a := ⟨w.heap.size + 1, 3, none⟩) (v := .int .i32 y.ay) y3
       replace y4 := Kep.all g2 (a := ⟨w.heap.size + 1, 4, none⟩) (v := .int .i32 y.m) y4
       replace y5 := Kep.all g2 (a := ⟨w.heap.size + 1, 5, none⟩) (v := .int .i32 y.o) y5
       replace y6 := Kep.all g2 (a := ⟨w.heap.size + 1, 6, none⟩) (v := .int .i32 y.px) y6
       replace y7 := Kep.all g2 (a := ⟨w.heap.size + 1, 7, none⟩) (v := .int .i32 y.py) y7
       replace y8 := Kep.all g2 (a := ⟨w.heap.size + 1, 8, none⟩) (v := .int .i32 y.vx) y8
       replace y9 := Kep.all g2 (a := ⟨w.heap.size + 1, 9, none⟩) (v := .int .i32 y.vy) y9
       replace d0 := Kep.all g2 (a := ⟨w.heap.size + 1 + 1, 0, none⟩) (v := .int .i32 vx) d0
       replace d1 := Kep.all g2 (a := ⟨w.heap.size + 1 + 1, 1, none⟩) (v := .int .i32 vy) d1
       replace gg := kep_next gg g2
       have zx_w2 : w.heap.size < w2.heap.size := World.block_lt_of_cell? _ _ x0
       have zy_w2 : w.heap.size + 1 < w2.heap.size := World.block_lt_of_cell? _ _ y0
       have zd_w2 : w.heap.size + 1 + 1 < w2.heap.size := World.block_lt_of_cell? _ _ d0)
    | ((with_reducible refine (I1.out _).mono ?_); rintro e w' ⟨rfl, rfl⟩)
    | ((with_reducible refine (I2.out _).mono ?_); rintro e w' ⟨rfl, rfl⟩))
  go_ret
  exact ⟨rfl, gg⟩
set_option maxRecDepth 100000 in
set_option maxHeartbeats 4000000 in
theorem kvl_far (AW : Hid QAwake) (x y : Bd) (vx vy ex ey fx fy : Int) (RR : Hid (KRr x y true)) (I1 : Hid (∀ w, Calls Try.prog 17 #[.int .i32 vx, .int .i32 1000000000] w fun e w' => e = .returned (.bool true) ∧ w = w')) (I2 : Hid (∀ w, Calls Try.prog 17 #[.int .i32 vy, .int .i32 1000000000] w fun e w' => e = .returned (.bool true) ∧ w = w')) (he1 : IntKind.i32.wrap (x.px + vx) = ex) (he2 : IntKind.i32.wrap (x.py + vy) = ey) (he3 : IntKind.i32.wrap (y.px + vx) = fx) (he4 : IntKind.i32.wrap (y.py + vy) = fy) (R2 : Hid (∀ w, Calls Try.prog 9 #[.agg #[.int .u32 x.k, .int .i32 x.r, .int .i32 x.ax, .int .i32 x.ay, .int .i32 0, .int .i32 0, .int .i32 ex, .int .i32 ey, .int .i32 0, .int .i32 0], .agg #[.int .u32 y.k, .int .i32 y.r, .int .i32 y.ax, .int .i32 y.ay, .int .i32 0, .int .i32 0, .int .i32 fx, .int .i32 fy, .int .i32 0, .int .i32 0]] w fun e w' => e = .returned (.bool false) ∧ Kep w.heap.size w w')) (w : World) : Calls Try.prog 6 #[.agg #[.int .u32 x.k, .int .i32 x.r, .int .i32 x.ax, .int .i32 x.ay, .int .i32 x.m, .int .i32 x.o, .int .i32 x.px, .int .i32 x.py, .int .i32 x.vx, .int .i32 x.vy], .agg #[.int .u32 y.k, .int .i32 y.r, .int .i32 y.ax, .int .i32 y.ay, .int .i32 y.m, .int .i32 y.o, .int .i32 y.px, .int .i32 y.py, .int .i32 y.vx, .int .i32 y.vy], .agg #[.int .i32 vx, .int .i32 vy]] w fun e w' => e = .returned (.bool true) ∧ Kep w.heap.size w w' := by
  have a1 : IntKind.i32.wrap (x.px + vx) = ex := he1
  have a2 : IntKind.i32.wrap (x.py + vy) = ey := he2
  have a3 : IntKind.i32.wrap (y.px + vx) = fx := he3
  have a4 : IntKind.i32.wrap (y.py + vy) = fy := he4
  clear he1 he2 he3 he4
  go_enter Try.func6, Try.ntmps6
  go_wp2_with (first
    | ((with_reducible refine (AW.out _).mono ?_); rintro e w1 ⟨rfl, g1⟩
       have x0 := Kep.all g1 (a := ⟨w.heap.size, 0, none⟩) (v := .int .u32 x.k) (by (repeat (first | rw [World.cell?_drew] | rw [World.cell?_alloc_past _ _ _ (by first | (simp; done) | (simp; omega))])); rw [World.cell?_alloc_at _ _ _ _ (by simp)]; rfl)
       have x1 := Kep.all g1 (a := ⟨w.heap.size, 1, none⟩) (v := .int .i32 x.r) (by (repeat (first | rw [World.cell?_drew] | rw [World.cell?_alloc_past _ _ _ (by first | (simp; done) | (simp; omega))])); rw [World.cell?_alloc_at _ _ _ _ (by simp)]; rfl)
       have x2 := Kep.all g1 (a := ⟨w.heap.size, 2, none⟩) (v := .int .i32 x.ax) (by (repeat (first | rw [World.cell?_drew] | rw [World.cell?_alloc_past _ _ _ (by first | (simp; done) | (simp; omega))])); rw [World.cell?_alloc_at _ _ _ _ (by simp)]; rfl)
       have x3 := Kep.all g1 (a := ⟨w.heap.size, 3, none⟩) (v := .int .i32 x.ay) (by (repeat (first | rw [World.cell?_drew] | rw [World.cell?_alloc_past _ _ _ (by first | (simp; done) | (simp; omega))])); rw [World.cell?_alloc_at _ _ _ _ (by simp)]; rfl)
       have x4 := Kep.all g1 (a := ⟨w.heap.size, 4, none⟩) (v := .int .i32 x.m) (by (repeat (first | rw [World.cell?_drew] | rw [World.cell?_alloc_past _ _ _ (by first | (simp; done) | (simp; omega))])); rw [World.cell?_alloc_at _ _ _ _ (by simp)]; rfl)
       have x5 := Kep.all g1 (a := ⟨w.heap.size, 5, none⟩) (v := .int .i32 x.o) (by (repeat (first | rw [World.cell?_drew] | rw [World.cell?_alloc_past _ _ _ (by first | (simp; done) | (simp; omega))])); rw [World.cell?_alloc_at _ _ _ _ (by simp)]; rfl)
       have x6 := Kep.all g1 (a := ⟨w.heap.size, 6, none⟩) (v := .int .i32 x.px) (by (repeat (first | rw [World.cell?_drew] | rw [World.cell?_alloc_past _ _ _ (by first | (simp; done) | (simp; omega))])); rw [World.cell?_alloc_at _ _ _ _ (by simp)]; rfl)
       have x7 := Kep.all g1 (a := ⟨w.heap.size, 7, none⟩) (v := .int .i32 x.py) (by (repeat (first | rw [World.cell?_drew] | rw [World.cell?_alloc_past _ _ _ (by first | (simp; done) | (simp; omega))])); rw [World.cell?_alloc_at _ _ _ _ (by simp)]; rfl)
       have x8 := Kep.all g1 (a := ⟨w.heap.size, 8, none⟩) (v := .int .i32 x.vx) (by (repeat (first | rw [World.cell?_drew] | rw [World.cell?_alloc_past _ _ _ (by first | (simp; done) | (simp; omega))])); rw [World.cell?_alloc_at _ _ _ _ (by simp)]; rfl)
       have x9 := Kep.all g1 (a := ⟨w.heap.size, 9, none⟩) (v := .int .i32 x.vy) (by (repeat (first | rw [World.cell?_drew] | rw [World.cell?_alloc_past _ _ _ (by first | (simp; done) | (simp; omega))])); rw [World.cell?_alloc_at _ _ _ _ (by simp)]; rfl)
       have y0 := Kep.all g1 (a := ⟨w.heap.size + 1, 0, none⟩) (v := .int .u32 y.k) (by (repeat (first | rw [World.cell?_drew] | rw [World.cell?_alloc_past _ _ _ (by first | (simp; done) | (simp; omega))])); rw [World.cell?_alloc_at _ _ _ _ (by simp)]; rfl)
       have y1 := Kep.all g1 (a := ⟨w.heap.size + 1, 1, none⟩) (v := .int .i32 y.r) (by (repeat (first | rw [World.cell?_drew] | rw [World.cell?_alloc_past _ _ _ (by first | (simp; done) | (simp; omega))])); rw [World.cell?_alloc_at _ _ _ _ (by simp)]; rfl)
       have y2 := Kep.all g1 (a := ⟨w.heap.size + 1, 2, none⟩) (v := .int .i32 y.ax) (by (repeat (first | rw [World.cell?_drew] | rw [World.cell?_alloc_past _ _ _ (by first | (simp; done) | (simp; omega))])); rw [World.cell?_alloc_at _ _ _ _ (by simp)]; rfl)
       have y3 := Kep.all g1 (a := ⟨w.heap.size + 1, 3, none⟩) (v := .int .i32 y.ay) (by (repeat (first | rw [World.cell?_drew] | rw [World.cell?_alloc_past _ _ _ (by first | (simp; done) | (simp; omega))])); rw [World.cell?_alloc_at _ _ _ _ (by simp)]; rfl)
       have y4 := Kep.all g1 (a := ⟨w.heap.size + 1, 4, none⟩) (v := .int .i32 y.m) (by (repeat (first | rw [World.cell?_drew] | rw [World.cell?_alloc_past _ _ _ (by first | (simp; done) | (simp; omega))])); rw [World.cell?_alloc_at _ _ _ _ (by simp)]; rfl)
       have y5 := Kep.all g1 (a := ⟨w.heap.size + 1, 5, none⟩) (v := .int .i32 y.o) (by (repeat (first | rw [World.cell?_drew] | rw [World.cell?_alloc_past _ _ _ (by first | (simp; done) | (simp; omega))])); rw [World.cell?_alloc_at _ _ _ _ (by simp)]; rfl)
       have y6 := Kep.all g1 (a := ⟨w.heap.size + 1, 6, none⟩) (v := .int .i32 y.px) (by (repeat (first | rw [World.cell?_drew] | rw [World.cell?_alloc_past _ _ _ (by first | (simp; done) | (simp; omega))])); rw [World.cell?_alloc_at _ _ _ _ (by simp)]; rfl)
       have y7 := Kep.all g1 (a := ⟨w.heap.size + 1, 7, none⟩) (v := .int .i32 y.py) (by (repeat (first | rw [World.cell?_drew] | rw [World.cell?_alloc_past _ _ _ (by first | (simp; done) | (simp; omega))])); rw [World.cell?_alloc_at _ _ _ _ (by simp)]; rfl)
       have y8 := Kep.all g1 (a := ⟨w.heap.size + 1, 8, none⟩) (v := .int .i32 y.vx) (by (repeat (first | rw [World.cell?_drew] | rw [World.cell?_alloc_past _ _ _ (by first | (simp; done) | (simp; omega))])); rw [World.cell?_alloc_at _ _ _ _ (by simp)]; rfl)
       have y9 := Kep.all g1 (a := ⟨w.heap.size + 1, 9, none⟩) (v := .int .i32 y.vy) (by (repeat (first | rw [World.cell?_drew] | rw [World.cell?_alloc_past _ _ _ (by first | (simp; done) | (simp; omega))])); rw [World.cell?_alloc_at _ _ _ _ (by simp)]; rfl)
       have d0 := Kep.all g1 (a := ⟨w.heap.size + 1 + 1, 0, none⟩) (v := .int .i32 vx) (by (repeat (first | rw [World.cell?_drew] | rw [World.cell?_alloc_past _ _ _ (by first | (simp; done) | (simp; omega))])); rw [World.cell?_alloc_at _ _ _ _ (by simp)]; rfl)
       have d1 := Kep.all g1 (a := ⟨w.heap.size + 1 + 1, 1, none⟩) (v := .int .i32 vy) (by (repeat (first | rw [World.cell?_drew] | rw [World.cell?_alloc_past _ _ _ (by first | (simp; done) | (simp; omega))])); rw [World.cell?_alloc_at _ _ _ _ (by simp)]; rfl)
       have gg := kep_next (kep_more (kep_more (kep_more (Kep.refl _ _) _) _) _) g1
       have zx_w1 : w.heap.size < w1.heap.size := World.block_lt_of_cell? _ _ x0
       have zy_w1 : w.heap.size + 1 < w1.heap.size := World.block_lt_of_cell? _ _ y0
       have zd_w1 : w.heap.size + 1 + 1 < w1.heap.size := World.block_lt_of_cell? _ _ d0)
    | ((with_reducible refine (RR.out _).mono ?_); rintro e w2 ⟨rfl, g2⟩
       replace x0 := Kep.all g2 (a := ⟨w.heap.size, 0, none⟩) (v := .int .u32 x.k) x0
       replace x1 := Kep.all g2 (a := ⟨w.heap.size, 1, none⟩) (v := .int .i32 x.r) x1
       replace x2 := Kep.all g2 (a := ⟨w.heap.size, 2, none⟩) (v := .int .i32 x.ax) x2
       replace x3 := Kep.all g2 (a := ⟨w.heap.size, 3, none⟩) (v := .int .i32 x.ay) x3
       replace x4 := Kep.all g2 (a := ⟨w.heap.size, 4, none⟩) (v := .int .i32 x.m) x4
       replace x5 := Kep.all g2 (a := ⟨w.heap.size, 5, none⟩) (v := .int .i32 x.o) x5
       replace x6 := Kep.all g2 (a := ⟨w.heap.size, 6, none⟩) (v := .int .i32 x.px) x6
       replace x7 := Kep.all g2 (a := ⟨w.heap.size, 7, none⟩) (v := .int .i32 x.py) x7
       replace x8 := Kep.all g2 (a := ⟨w.heap.size, 8, none⟩) (v := .int .i32 x.vx) x8
       replace x9 := Kep.all g2 (a := ⟨w.heap.size, 9, none⟩) (v := .int .i32 x.vy) x9
       replace y0 := Kep.all g2 (a := ⟨w.heap.size + 1, 0, none⟩) (v := .int .u32 y.k) y0
       replace y1 := Kep.all g2 (a := ⟨w.heap.size + 1, 1, none⟩) (v := .int .i32 y.r) y1
       replace y2 := Kep.all g2 (a := ⟨w.heap.size + 1, 2, none⟩) (v := .int .i32 y.ax) y2
       replace y3 := Kep.all g2 (a := ⟨w.heap.size + 1, 3, none⟩) (v := .int .i32 y.ay) y3
       replace y4 := Kep.all g2 (a := ⟨w.heap.size + 1, 4, none⟩) (v := .int .i32 y.m) y4
       replace y5 := Kep.all g2 (a := ⟨w.heap.size + 1, 5, none⟩) (v := .int .i32 y.o) y5
       replace y6 := Kep.all g2 (a := ⟨w.heap.size + 1, 6, none⟩) (v := .int .i32 y.px) y6
       replace y7 := Kep.all g2 (a := ⟨w.heap.size + 1, 7, none⟩) (v := .int .i32 y.py) y7
       replace y8 := Kep.all g2 (a := ⟨w.heap.size + 1, 8, none⟩) (v := .int .i32 y.vx) y8
       replace y9 := Kep.all g2 (a := ⟨w.heap.size + 1, 9, none⟩) (v := .int .i32 y.vy) y9
       replace d0 := Kep.all g2 (a := ⟨w.heap.size + 1 + 1, 0, none⟩) (v := .int .i32 vx) d0
       replace d1 := Kep.all g2 (a := ⟨w.heap.size + 1 + 1, 1, none⟩) (v := .int .i32 vy) d1
       replace gg := kep_next gg g2
       have zx_w2 : w.heap.size < w2.heap.size := World.block_lt_of_cell? _ _ x0
       have zy_w2 : w.heap.size + 1 < w2.heap.size := World.block_lt_of_cell? _ _ y0
       have zd_w2 : w.heap.size + 1 + 1 < w2.heap.size := World.block_lt_of_cell? _ _ d0)
    | ((with_reducible refine (I1.out _).mono ?_); rintro e w' ⟨rfl, rfl⟩)
    | ((with_reducible refine (I2.out _).mono ?_); rintro e w' ⟨rfl, rfl⟩)
    | ((with_reducible refine (R2.out _).mono ?_); rintro e w3 ⟨rfl, g3⟩
       replace x0 := Kep.all g3 (a := ⟨w.heap.size, 0, none⟩) (v := .int .u32 x.k) (Kep.all (kep_more (kep_more (Kep.refl _ _) _) _) x0)
       replace x1 := Kep.all g3 (a := ⟨w.heap.size, 1, none⟩) (v := .int .i32 x.r) (Kep.all (kep_more (kep_more (Kep.refl _ _) _) _) x1)
       replace x2 := Kep.all g3 (a := ⟨w.heap.size, 2, none⟩) (v := .int .i32 x.ax) (Kep.all (kep_more (kep_more (Kep.refl _ _) _) _) x2)
       replace x3 := Kep.all g3 (a := ⟨w.heap.size, 3, none⟩) (v := .int .i32 x.ay) (Kep.all (kep_more (kep_more (Kep.refl _ _) _) _) x3)
       replace x4 := Kep.all g3 (a := ⟨w.heap.size, 4, none⟩) (v := .int .i32 x.m) (Kep.all (kep_more (kep_more (Kep.refl _ _) _) _) x4)
       replace x5 := Kep.all g3 (a := ⟨w.heap.size, 5, none⟩) (v := .int .i32 x.o) (Kep.all (kep_more (kep_more (Kep.refl _ _) _) _) x5)
       replace x6 := Kep.all g3 (a := ⟨w.heap.size, 6, none⟩) (v := .int .i32 x.px) (Kep.all (kep_more (kep_more (Kep.refl _ _) _) _) x6)
       replace x7 := Kep.all g3 (a := ⟨w.heap.size, 7, none⟩) (v := .int .i32 x.py) (Kep.all (kep_more (kep_more (Kep.refl _ _) _) _) x7)
       replace x8 := Kep.all g3 (a := ⟨w.heap.size, 8, none⟩) (v := .int .i32 x.vx) (Kep.all (kep_more (kep_more (Kep.refl _ _) _) _) x8)
       replace x9 := Kep.all g3 (a := ⟨w.heap.size, 9, none⟩) (v := .int .i32 x.vy) (Kep.all (kep_more (kep_more (Kep.refl _ _) _) _) x9)
       replace y0 := Kep.all g3 (a := ⟨w.heap.size + 1, 0, none⟩) (v := .int .u32 y.k) (Kep.all (kep_more (kep_more (Kep.refl _ _) _) _) y0)
       replace y1 := Kep.all g3 (a := ⟨w.heap.size + 1, 1, none⟩) (v := .int .i32 y.r) (Kep.all (kep_more (kep_more (Kep.refl _ _) _) _) y1)
       replace y2 := Kep.all g3 (a := ⟨w.heap.size + 1, 2, none⟩) (v := .int .i32 y.ax) (Kep.all (kep_more (kep_more (Kep.refl _ _) _) _) y2)
       replace y3 := Kep.all g3 (a := ⟨w.heap.size + 1, 3, none⟩) (v := .int .i32 y.ay) (Kep.all (kep_more (kep_more (Kep.refl _ _) _) _) y3)
       replace y4 := Kep.all g3 (a := ⟨w.heap.size + 1, 4, none⟩) (v := .int .i32 y.m) (Kep.all (kep_more (kep_more (Kep.refl _ _) _) _) y4)
       replace y5 := Kep.all g3 (a := ⟨w.heap.size + 1, 5, none⟩) (v := .int .i32 y.o) (Kep.all (kep_more (kep_more (Kep.refl _ _) _) _) y5)
       replace y6 := Kep.all g3 (a := ⟨w.heap.size + 1, 6, none⟩) (v := .int .i32 y.px) (Kep.all (kep_more (kep_more (Kep.refl _ _) _) _) y6)
       replace y7 := Kep.all g3 (a := ⟨w.heap.size + 1, 7, none⟩) (v := .int .i32 y.py) (Kep.all (kep_more (kep_more (Kep.refl _ _) _) _) y7)
       replace y8 := Kep.all g3 (a := ⟨w.heap.size + 1, 8, none⟩) (v := .int .i32 y.vx) (Kep.all (kep_more (kep_more (Kep.refl _ _) _) _) y8)
       replace y9 := Kep.all g3 (a := ⟨w.heap.size + 1, 9, none⟩) (v := .int .i32 y.vy) (Kep.all (kep_more (kep_more (Kep.refl _ _) _) _) y9)
       replace d0 := Kep.all g3 (a := ⟨w.heap.size + 1 + 1, 0, none⟩) (v := .int .i32 vx) (Kep.all (kep_more (kep_more (Kep.refl _ _) _) _) d0)
       replace d1 := Kep.all g3 (a := ⟨w.heap.size + 1 + 1, 1, none⟩) (v := .int .i32 vy) (Kep.all (kep_more (kep_more (Kep.refl _ _) _) _) d1)
       have xx0 := Kep.all g3 (a := ⟨w2.heap.size, 0, none⟩) (v := .int .u32 x.k) (by (repeat (first | rw [World.cell?_drew] | rw [World.cell?_alloc_past _ _ _ (by first | (simp; done) | (simp; omega))])); rw [World.cell?_alloc_at _ _ _ _ (by simp)]; rfl)
       have xx1 := Kep.all g3 (a := ⟨w2.heap.size, 1, none⟩) (v := .int .i32 x.r) (by (repeat (first | rw [World.cell?_drew] | rw [World.cell?_alloc_past _ _ _ (by first | (simp; done) | (simp; omega))])); rw [World.cell?_alloc_at _ _ _ _ (by simp)]; rfl)
       have xx2 := Kep.all g3 (a := ⟨w2.heap.size, 2, none⟩) (v := .int .i32 x.ax) (by (repeat (first | rw [World.cell?_drew] | rw [World.cell?_alloc_past _ _ _ (by first | (simp; done) | (simp; omega))])); rw [World.cell?_alloc_at _ _ _ _ (by simp)]; rfl)
       have xx3 := Kep.all g3 (a := ⟨w2.heap.size, 3, none⟩) (v := .int .i32 x.ay) (by (repeat (first | rw [World.cell?_drew] | rw [World.cell?_alloc_past _ _ _ (by first | (simp; done) | (simp; omega))])); rw [World.cell?_alloc_at _ _ _ _ (by simp)]; rfl)
       have xx4 := Kep.all g3 (a := ⟨w2.heap.size, 4, none⟩) (v := .int .i32 0) (by (repeat (first | rw [World.cell?_drew] | rw [World.cell?_alloc_past _ _ _ (by first | (simp; done) | (simp; omega))])); rw [World.cell?_alloc_at _ _ _ _ (by simp)]; rfl)
       have xx5 := Kep.all g3 (a := ⟨w2.heap.size, 5, none⟩) (v := .int .i32 0) (by (repeat (first | rw [World.cell?_drew] | rw [World.cell?_alloc_past _ _ _ (by first | (simp; done) | (simp; omega))])); rw [World.cell?_alloc_at _ _ _ _ (by simp)]; rfl)
       have xx6 := Kep.all g3 (a := ⟨w2.heap.size, 6, none⟩) (v := .int .i32 ex) (by (repeat (first | rw [World.cell?_drew] | rw [World.cell?_alloc_past _ _ _ (by first | (simp; done) | (simp; omega))])); rw [World.cell?_alloc_at _ _ _ _ (by simp)]; rfl)
       have xx7 := Kep.all g3 (a := ⟨w2.heap.size, 7, none⟩) (v := .int .i32 ey) (by (repeat (first | rw [World.cell?_drew] | rw [World.cell?_alloc_past _ _ _ (by first | (simp; done) | (simp; omega))])); rw [World.cell?_alloc_at _ _ _ _ (by simp)]; rfl)
       have xx8 := Kep.all g3 (a := ⟨w2.heap.size, 8, none⟩) (v := .int .i32 0) (by (repeat (first | rw [World.cell?_drew] | rw [World.cell?_alloc_past _ _ _ (by first | (simp; done) | (simp; omega))])); rw [World.cell?_alloc_at _ _ _ _ (by simp)]; rfl)
       have xx9 := Kep.all g3 (a := ⟨w2.heap.size, 9, none⟩) (v := .int .i32 0) (by (repeat (first | rw [World.cell?_drew] | rw [World.cell?_alloc_past _ _ _ (by first | (simp; done) | (simp; omega))])); rw [World.cell?_alloc_at _ _ _ _ (by simp)]; rfl)
       have yy0 := Kep.all g3 (a := ⟨w2.heap.size + 1, 0, none⟩) (v := .int .u32 y.k) (by (repeat (first | rw [World.cell?_drew] | rw [World.cell?_alloc_past _ _ _ (by first | (simp; done) | (simp; omega))])); rw [World.cell?_alloc_at _ _ _ _ (by simp)]; rfl)
       have yy1 := Kep.all g3 (a := ⟨w2.heap.size + 1, 1, none⟩) (v := .int .i32 y.r) (by (repeat (first | rw [World.cell?_drew] | rw [World.cell?_alloc_past _ _ _ (by first | (simp; done) | (simp; omega))])); rw [World.cell?_alloc_at _ _ _ _ (by simp)]; rfl)
       have yy2 := Kep.all g3 (a := ⟨w2.heap.size + 1, 2, none⟩) (v := .int .i32 y.ax) (by (repeat (first | rw [World.cell?_drew] | rw [World.cell?_alloc_past _ _ _ (by first | (simp; done) | (simp; omega))])); rw [World.cell?_alloc_at _ _ _ _ (by simp)]; rfl)
       have yy3 := Kep.all g3 (a := ⟨w2.heap.size + 1, 3, none⟩) (v := .int .i32 y.ay) (by (repeat (first | rw [World.cell?_drew] | rw [World.cell?_alloc_past _ _ _ (by first | (simp; done) | (simp; omega))])); rw [World.cell?_alloc_at _ _ _ _ (by simp)]; rfl)
       have yy4 := Kep.all g3 (a := ⟨w2.heap.size + 1, 4, none⟩) (v := .int .i32 0) (by (repeat (first | rw [World.cell?_drew] | rw [World.cell?_alloc_past _ _ _ (by first | (simp; done) | (simp; omega))])); rw [World.cell?_alloc_at _ _ _ _ (by simp)]; rfl)
       have yy5 := Kep.all g3 (a := ⟨w2.heap.size + 1, 5, none⟩) (v := .int .i32 0) (by (repeat (first | rw [World.cell?_drew] | rw [World.cell?_alloc_past _ _ _ (by first | (simp; done) | (simp; omega))])); rw [World.cell?_alloc_at _ _ _ _ (by simp)]; rfl)
       have yy6 := Kep.all g3 (a := ⟨w2.heap.size + 1, 6, none⟩) (v := .int .i32 fx) (by (repeat (first | rw [World.cell?_drew] | rw [World.cell?_alloc_past _ _ _ (by first | (simp; done) | (simp; omega))])); rw [World.cell?_alloc_at _ _ _ _ (by simp)]; rfl)
       have yy7 := Kep.all g3 (a := ⟨w2.heap.size + 1, 7, none⟩) (v := .int .i32 fy) (by (repeat (first | rw [World.cell?_drew] | rw [World.cell?_alloc_past _ _ _ (by first | (simp; done) | (simp; omega))])); rw [World.cell?_alloc_at _ _ _ _ (by simp)]; rfl)
       have yy8 := Kep.all g3 (a := ⟨w2.heap.size + 1, 8, none⟩) (v := .int .i32 0) (by (repeat (first | rw [World.cell?_drew] | rw [World.cell?_alloc_past _ _ _ (by first | (simp; done) | (simp; omega))])); rw [World.cell?_alloc_at _ _ _ _ (by simp)]; rfl)
       have yy9 := Kep.all g3 (a := ⟨w2.heap.size + 1, 9, none⟩) (v := .int .i32 0) (by (repeat (first | rw [World.cell?_drew] | rw [World.cell?_alloc_past _ _ _ (by first | (simp; done) | (simp; omega))])); rw [World.cell?_alloc_at _ _ _ _ (by simp)]; rfl)
       replace gg := kep_next (kep_more (kep_more gg _) _) g3
       have zx_w3 : w.heap.size < w3.heap.size := World.block_lt_of_cell? _ _ x0
       have zy_w3 : w.heap.size + 1 < w3.heap.size := World.block_lt_of_cell? _ _ y0
       have zd_w3 : w.heap.size + 1 + 1 < w3.heap.size := World.block_lt_of_cell? _ _ d0
       have zxx_w3 : w2.heap.size < w3.heap.size := World.block_lt_of_cell? _ _ xx0
       have zyy_w3 : w2.heap.size + 1 < w3.heap.size := World.block_lt_of_cell? _ _ yy0))
  go_ret
  exact ⟨rfl, gg⟩
set_option maxRecDepth 100000 in
set_option maxHeartbeats 8000000 in
theorem kvl_main (AW : Hid QAwake) (x y : Bd) (vx vy ex ey fx fy : Int) (RR : Hid (KRr x y true)) (I1 : Hid (∀ w, Calls Try.prog 17 #[.int .i32 vx, .int .i32 1000000000] w fun e w' => e = .returned (.bool true) ∧ w = w')) (I2 : Hid (∀ w, Calls Try.prog 17 #[.int .i32 vy, .int .i32 1000000000] w fun e w' => e = .returned (.bool true) ∧ w = w')) (he1 : IntKind.i32.wrap (x.px + vx) = ex) (he2 : IntKind.i32.wrap (x.py + vy) = ey) (he3 : IntKind.i32.wrap (y.px + vx) = fx) (he4 : IntKind.i32.wrap (y.py + vy) = fy) (R2 : Hid (∀ w, Calls Try.prog 9 #[.agg #[.int .u32 x.k, .int .i32 x.r, .int .i32 x.ax, .int .i32 x.ay, .int .i32 0, .int .i32 0, .int .i32 ex, .int .i32 ey, .int .i32 0, .int .i32 0], .agg #[.int .u32 y.k, .int .i32 y.r, .int .i32 y.ax, .int .i32 y.ay, .int .i32 0, .int .i32 0, .int .i32 fx, .int .i32 fy, .int .i32 0, .int .i32 0]] w fun e w' => e = .returned (.bool true) ∧ Kep w.heap.size w w')) (v0 v1 v2 v3 v4 g9 : Int) (z : Bool) (C1 : Hid (∀ w, Calls Try.prog 10 #[.agg #[.int .u32 x.k, .int .i32 x.r, .int .i32 x.ax, .int .i32 x.ay, .int .i32 x.m, .int .i32 x.o, .int .i32 x.px, .int .i32 x.py, .int .i32 x.vx, .int .i32 x.vy], .agg #[.int .u32 y.k, .int .i32 y.r, .int .i32 y.ax, .int .i32 y.ay, .int .i32 y.m, .int .i32 y.o, .int .i32 y.px, .int .i32 y.py, .int .i32 y.vx, .int .i32 y.vy]] w fun e w' => e = .returned (.tuple #[.agg #[.int .u32 v0, .int .u32 v1, .int .i32 v2, .int .i32 v3, .int .i32 v4], .bool z]) ∧ Kep w.heap.size w w')) (C2 : Hid (∀ w, Calls Try.prog 10 #[.agg #[.int .u32 x.k, .int .i32 x.r, .int .i32 x.ax, .int .i32 x.ay, .int .i32 0, .int .i32 0, .int .i32 ex, .int .i32 ey, .int .i32 0, .int .i32 0], .agg #[.int .u32 y.k, .int .i32 y.r, .int .i32 y.ax, .int .i32 y.ay, .int .i32 0, .int .i32 0, .int .i32 fx, .int .i32 fy, .int .i32 0, .int .i32 0]] w fun e w' => e = .returned (.tuple #[.agg #[.int .u32 v0, .int .u32 v1, .int .i32 v2, .int .i32 v3, .int .i32 v4], .bool z]) ∧ Kep w.heap.size w w')) (C3 : Hid (∀ w, Calls Try.prog 13 #[.agg #[.int .u32 x.k, .int .i32 x.r, .int .i32 x.ax, .int .i32 x.ay, .int .i32 x.m, .int .i32 x.o, .int .i32 x.px, .int .i32 x.py, .int .i32 x.vx, .int .i32 x.vy], .agg #[.int .u32 y.k, .int .i32 y.r, .int .i32 y.ax, .int .i32 y.ay, .int .i32 y.m, .int .i32 y.o, .int .i32 y.px, .int .i32 y.py, .int .i32 y.vx, .int .i32 y.vy]] w fun e w' => e = .returned (.int .i64 g9) ∧ Kep w.heap.size w w')) (C4 : Hid (∀ w, Calls Try.prog 13 #[.agg #[.int .u32 x.k, .int .i32 x.r, .int .i32 x.ax, .int .i32 x.ay, .int .i32 0, .int .i32 0, .int .i32 ex, .int .i32 ey, .int .i32 0, .int .i32 0], .agg #[.int .u32 y.k, .int .i32 y.r, .int .i32 y.ax, .int .i32 y.ay, .int .i32 0, .int .i32 0, .int .i32 fx, .int .i32 fy, .int .i32 0, .int .i32 0]] w fun e w' => e = .returned (.int .i64 g9) ∧ Kep w.heap.size w w')) (w : World) : Calls Try.prog 6 #[.agg #[.int .u32 x.k, .int .i32 x.r, .int .i32 x.ax, .int .i32 x.ay, .int .i32 x.m, .int .i32 x.o, .int .i32 x.px, .int .i32 x.py, .int .i32 x.vx, .int .i32 x.vy], .agg #[.int .u32 y.k, .int .i32 y.r, .int .i32 y.ax, .int .i32 y.ay, .int .i32 y.m, .int .i32 y.o, .int .i32 y.px, .int .i32 y.py, .int .i32 y.vx, .int .i32 y.vy], .agg #[.int .i32 vx, .int .i32 vy]] w fun e w' => e = .returned (.bool true) ∧ Kep w.heap.size w w' := by
  have a1 : IntKind.i32.wrap (x.px + vx) = ex := he1
  have a2 : IntKind.i32.wrap (x.py + vy) = ey := he2
  have a3 : IntKind.i32.wrap (y.px + vx) = fx := he3
  have a4 : IntKind.i32.wrap (y.py + vy) = fy := he4
  clear he1 he2 he3 he4
  have vv := fun w => ct_same v0 v1 v2 v3 v4 w
  have eg : (g9 == g9) = true := by simp
  have ez : (z == z) = true := by simp
  go_enter Try.func6, Try.ntmps6
  go_wp2_with (first
    | ((with_reducible refine (AW.out _).mono ?_); rintro e w1 ⟨rfl, g1⟩
       have x0 := Kep.all g1 (a := ⟨w.heap.size, 0, none⟩) (v := .int .u32 x.k) (by (repeat (first | rw [World.cell?_drew] | rw [World.cell?_alloc_past _ _ _ (by first | (simp; done) | (simp; omega))])); rw [World.cell?_alloc_at _ _ _ _ (by simp)]; rfl)
       have x1 := Kep.all g1 (a := ⟨w.heap.size, 1, none⟩) (v := .int .i32 x.r) (by (repeat (first | rw [World.cell?_drew] | rw [World.cell?_alloc_past _ _ _ (by first | (simp; done) | (simp; omega))])); rw [World.cell?_alloc_at _ _ _ _ (by simp)]; rfl)
       have x2 := Kep.all g1 (a := ⟨w.heap.size, 2, none⟩) (v := .int .i32 x.ax) (by (repeat (first | rw [World.cell?_drew] | rw [World.cell?_alloc_past _ _ _ (by first | (simp; done) | (simp; omega))])); rw [World.cell?_alloc_at _ _ _ _ (by simp)]; rfl)
       have x3 := Kep.all g1 (a := ⟨w.heap.size, 3, none⟩) (v := .int .i32 x.ay) (by (repeat (first | rw [World.cell?_drew] | rw [World.cell?_alloc_past _ _ _ (by first | (simp; done) | (simp; omega))])); rw [World.cell?_alloc_at _ _ _ _ (by simp)]; rfl)
       have x4 := Kep.all g1 (a := ⟨w.heap.size, 4, none⟩) (v := .int .i32 x.m) (by (repeat (first | rw [World.cell?_drew] | rw [World.cell?_alloc_past _ _ _ (by first | (simp; done) | (simp; omega))])); rw [World.cell?_alloc_at _ _ _ _ (by simp)]; rfl)
       have x5 := Kep.all g1 (a := ⟨w.heap.size, 5, none⟩) (v := .int .i32 x.o) (by (repeat (first | rw [World.cell?_drew] | rw [World.cell?_alloc_past _ _ _ (by first | (simp; done) | (simp; omega))])); rw [World.cell?_alloc_at _ _ _ _ (by simp)]; rfl)
       have x6 := Kep.all g1 (a := ⟨w.heap.size, 6, none⟩) (v := .int .i32 x.px) (by (repeat (first | rw [World.cell?_drew] | rw [World.cell?_alloc_past _ _ _ (by first | (simp; done) | (simp; omega))])); rw [World.cell?_alloc_at _ _ _ _ (by simp)]; rfl)
       have x7 := Kep.all g1 (a := ⟨w.heap.size, 7, none⟩) (v := .int .i32 x.py) (by (repeat (first | rw [World.cell?_drew] | rw [World.cell?_alloc_past _ _ _ (by first | (simp; done) | (simp; omega))])); rw [World.cell?_alloc_at _ _ _ _ (by simp)]; rfl)
       have x8 := Kep.all g1 (a := ⟨w.heap.size, 8, none⟩) (v := .int .i32 x.vx) (by (repeat (first | rw [World.cell?_drew] | rw [World.cell?_alloc_past _ _ _ (by first | (simp; done) | (simp; omega))])); rw [World.cell?_alloc_at _ _ _ _ (by simp)]; rfl)
       have x9 := Kep.all g1 (a := ⟨w.heap.size, 9, none⟩) (v := .int .i32 x.vy) (by (repeat (first | rw [World.cell?_drew] | rw [World.cell?_alloc_past _ _ _ (by first | (simp; done) | (simp; omega))])); rw [World.cell?_alloc_at _ _ _ _ (by simp)]; rfl)
       have y0 := Kep.all g1 (a := ⟨w.heap.size + 1, 0, none⟩) (v := .int .u32 y.k) (by (repeat (first | rw [World.cell?_drew] | rw [World.cell?_alloc_past _ _ _ (by first | (simp; done) | (simp; omega))])); rw [World.cell?_alloc_at _ _ _ _ (by simp)]; rfl)
       have y1 := Kep.all g1 (a := ⟨w.heap.size + 1, 1, none⟩) (v := .int .i32 y.r) (by (repeat (first | rw [World.cell?_drew] | rw [World.cell?_alloc_past _ _ _ (by first | (simp; done) | (simp; omega))])); rw [World.cell?_alloc_at _ _ _ _ (by simp)]; rfl)
       have y2 := Kep.all g1 (a := ⟨w.heap.size + 1, 2, none⟩) (v := .int .i32 y.ax) (by (repeat (first | rw [World.cell?_drew] | rw [World.cell?_alloc_past _ _ _ (by first | (simp; done) | (simp; omega))])); rw [World.cell?_alloc_at _ _ _ _ (by simp)]; rfl)
       have y3 := Kep.all g1 (a := ⟨w.heap.size + 1, 3, none⟩) (v := .int .i32 y.ay) (by (repeat (first | rw [World.cell?_drew] | rw [World.cell?_alloc_past _ _ _ (by first | (simp; done) | (simp; omega))])); rw [World.cell?_alloc_at _ _ _ _ (by simp)]; rfl)
       have y4 := Kep.all g1 (a := ⟨w.heap.size + 1, 4, none⟩) (v := .int .i32 y.m) (by (repeat (first | rw [World.cell?_drew] | rw [World.cell?_alloc_past _ _ _ (by first | (simp; done) | (simp; omega))])); rw [World.cell?_alloc_at _ _ _ _ (by simp)]; rfl)
       have y5 := Kep.all g1 (a := ⟨w.heap.size + 1, 5, none⟩) (v := .int .i32 y.o) (by (repeat (first | rw [World.cell?_drew] | rw [World.cell?_alloc_past _ _ _ (by first | (simp; done) | (simp; omega))])); rw [World.cell?_alloc_at _ _ _ _ (by simp)]; rfl)
       have y6 := Kep.all g1 (a := ⟨w.heap.size + 1, 6, none⟩) (v := .int .i32 y.px) (by (repeat (first | rw [World.cell?_drew] | rw [World.cell?_alloc_past _ _ _ (by first | (simp; done) | (simp; omega))])); rw [World.cell?_alloc_at _ _ _ _ (by simp)]; rfl)
       have y7 := Kep.all g1 (a := ⟨w.heap.size + 1, 7, none⟩) (v := .int .i32 y.py) (by (repeat (first | rw [World.cell?_drew] | rw [World.cell?_alloc_past _ _ _ (by first | (simp; done) | (simp; omega))])); rw [World.cell?_alloc_at _ _ _ _ (by simp)]; rfl)
       have y8 := Kep.all g1 (a := ⟨w.heap.size + 1, 8, none⟩) (v := .int .i32 y.vx) (by (repeat (first | rw [World.cell?_drew] | rw [World.cell?_alloc_past _ _ _ (by first | (simp; done) | (simp; omega))])); rw [World.cell?_alloc_at _ _ _ _ (by simp)]; rfl)
       have y9 := Kep.all g1 (a := ⟨w.heap.size + 1, 9, none⟩) (v := .int .i32 y.vy) (by (repeat (first | rw [World.cell?_drew] | rw [World.cell?_alloc_past _ _ _ (by first | (simp; done) | (simp; omega))])); rw [World.cell?_alloc_at _ _ _ _ (by simp)]; rfl)
       have d0 := Kep.all g1 (a := ⟨w.heap.size + 1 + 1, 0, none⟩) (v := .int .i32 vx) (by (repeat (first | rw [World.cell?_drew] | rw [World.cell?_alloc_past _ _ _ (by first | (simp; done) | (simp; omega))])); rw [World.cell?_alloc_at _ _ _ _ (by simp)]; rfl)
       have d1 := Kep.all g1 (a := ⟨w.heap.size + 1 + 1, 1, none⟩) (v := .int .i32 vy) (by (repeat (first | rw [World.cell?_drew] | rw [World.cell?_alloc_past _ _ _ (by first | (simp; done) | (simp; omega))])); rw [World.cell?_alloc_at _ _ _ _ (by simp)]; rfl)
       have gg := kep_next (kep_more (kep_more (kep_more (Kep.refl _ _) _) _) _) g1
       have zx_w1 : w.heap.size < w1.heap.size := World.block_lt_of_cell? _ _ x0
       have zy_w1 : w.heap.size + 1 < w1.heap.size := World.block_lt_of_cell? _ _ y0
       have zd_w1 : w.heap.size + 1 + 1 < w1.heap.size := World.block_lt_of_cell? _ _ d0)
    | ((with_reducible refine (RR.out _).mono ?_); rintro e w2 ⟨rfl, g2⟩
       replace x0 := Kep.all g2 (a := ⟨w.heap.size, 0, none⟩) (v := .int .u32 x.k) x0
       replace x1 := Kep.all g2 (a := ⟨w.heap.size, 1, none⟩) (v := .int .i32 x.r) x1
       replace x2 := Kep.all g2 (a := ⟨w.heap.size, 2, none⟩) (v := .int .i32 x.ax) x2
       replace x3 := Kep.all g2 (a := ⟨w.heap.size, 3, none⟩) (v := .int .i32 x.ay) x3
       replace x4 := Kep.all g2 (a := ⟨w.heap.size, 4, none⟩) (v := .int .i32 x.m) x4
       replace x5 := Kep.all g2 (a := ⟨w.heap.size, 5, none⟩) (v := .int .i32 x.o) x5
       replace x6 := Kep.all g2 (a := ⟨w.heap.size, 6, none⟩) (v := .int .i32 x.px) x6
       replace x7 := Kep.all g2 (a := ⟨w.heap.size, 7, none⟩) (v := .int .i32 x.py) x7
       replace x8 := Kep.all g2 (a := ⟨w.heap.size, 8, none⟩) (v := .int .i32 x.vx) x8
       replace x9 := Kep.all g2 (a := ⟨w.heap.size, 9, none⟩) (v := .int .i32 x.vy) x9
       replace y0 := Kep.all g2 (a := ⟨w.heap.size + 1, 0, none⟩) (v := .int .u32 y.k) y0
       replace y1 := Kep.all g2 (a := ⟨w.heap.size + 1, 1, none⟩) (v := .int .i32 y.r) y1
       replace y2 := Kep.all g2 (a := ⟨w.heap.size + 1, 2, none⟩) (v := .int .i32 y.ax) y2
       replace y3 := Kep.all g2 (a := ⟨w.heap.size + 1, 3, none⟩) (v := .int .i32 y.ay) y3
       replace y4 := Kep.all g2 (a := ⟨w.heap.size + 1, 4, none⟩) (v := .int .i32 y.m) y4
       replace y5 := Kep.all g2 (a := ⟨w.heap.size + 1, 5, none⟩) (v := .int .i32 y.o) y5
       replace y6 := Kep.all g2 (a := ⟨w.heap.size + 1, 6, none⟩) (v := .int .i32 y.px) y6
       replace y7 := Kep.all g2 (a := ⟨w.heap.size + 1, 7, none⟩) (v := .int .i32 y.py) y7
       replace y8 := Kep.all g2 (a := ⟨w.heap.size + 1, 8, none⟩) (v := .int .i32 y.vx) y8
       replace y9 := Kep.all g2 (a := ⟨w.heap.size + 1, 9, none⟩) (v := .int .i32 y.vy) y9
       replace d0 := Kep.all g2 (a := ⟨w.heap.size + 1 + 1, 0, none⟩) (v := .int .i32 vx) d0
       replace d1 := Kep.all g2 (a := ⟨w.heap.size + 1 + 1, 1, none⟩) (v := .int .i32 vy) d1
       replace gg := kep_next gg g2
       have zx_w2 : w.heap.size < w2.heap.size := World.block_lt_of_cell? _ _ x0
       have zy_w2 : w.heap.size + 1 < w2.heap.size := World.block_lt_of_cell? _ _ y0
       have zd_w2 : w.heap.size + 1 + 1 < w2.heap.size := World.block_lt_of_cell? _ _ d0)
    | ((with_reducible refine (I1.out _).mono ?_); rintro e w' ⟨rfl, rfl⟩)
    | ((with_reducible refine (I2.out _).mono ?_); rintro e w' ⟨rfl, rfl⟩)
    | ((with_reducible refine (R2.out _).mono ?_); rintro e w3 ⟨rfl, g3⟩
       replace x0 := Kep.all g3 (a := ⟨w.heap.size, 0, none⟩) (v := .int .u32 x.k) (Kep.all (kep_more (kep_more (Kep.refl _ _) _) _) x0)
       replace x1 := Kep.all g3 (a := ⟨w.heap.size, 1, none⟩) (v := .int .i32 x.r) (Kep.all (kep_more (kep_more (Kep.refl _ _) _) _) x1)
       replace x2 := Kep.all g3 (a := ⟨w.heap.size, 2, none⟩) (v := .int .i32 x.ax) (Kep.all (kep_more (kep_more (Kep.refl _ _) _) _) x2)
       replace x3 := Kep.all g3 (a := ⟨w.heap.size, 3, none⟩) (v := .int .i32 x.ay) (Kep.all (kep_more (kep_more (Kep.refl _ _) _) _) x3)
       replace x4 := Kep.all g3 (a := ⟨w.heap.size, 4, none⟩) (v := .int .i32 x.m) (Kep.all (kep_more (kep_more (Kep.refl _ _) _) _) x4)
       replace x5 := Kep.all g3 (a := ⟨w.heap.size, 5, none⟩) (v := .int .i32 x.o) (Kep.all (kep_more (kep_more (Kep.refl _ _) _) _) x5)
       replace x6 := Kep.all g3 (a := ⟨w.heap.size, 6, none⟩) (v := .int .i32 x.px) (Kep.all (kep_more (kep_more (Kep.refl _ _) _) _) x6)
       replace x7 := Kep.all g3 (a := ⟨w.heap.size, 7, none⟩) (v := .int .i32 x.py) (Kep.all (kep_more (kep_more (Kep.refl _ _) _) _) x7)
       replace x8 := Kep.all g3 (a := ⟨w.heap.size, 8, none⟩) (v := .int .i32 x.vx) (Kep.all (kep_more (kep_more (Kep.refl _ _) _) _) x8)
       replace x9 := Kep.all g3 (a := ⟨w.heap.size, 9, none⟩) (v := .int .i32 x.vy) (Kep.all (kep_more (kep_more (Kep.refl _ _) _) _) x9)
       replace y0 := Kep.all g3 (a := ⟨w.heap.size + 1, 0, none⟩) (v := .int .u32 y.k) (Kep.all (kep_more (kep_more (Kep.refl _ _) _) _) y0)
       replace y1 := Kep.all g3 (a := ⟨w.heap.size + 1, 1, none⟩) (v := .int .i32 y.r) (Kep.all (kep_more (kep_more (Kep.refl _ _) _) _) y1)
       replace y2 := Kep.all g3 (a := ⟨w.heap.size + 1, 2, none⟩) (v := .int .i32 y.ax) (Kep.all (kep_more (kep_more (Kep.refl _ _) _) _) y2)
       replace y3 := Kep.all g3 (a := ⟨w.heap.size + 1, 3, none⟩) (v := .int .i32 y.ay) (Kep.all (kep_more (kep_more (Kep.refl _ _) _) _) y3)
       replace y4 := Kep.all g3 (a := ⟨w.heap.size + 1, 4, none⟩) (v := .int .i32 y.m) (Kep.all (kep_more (kep_more (Kep.refl _ _) _) _) y4)
       replace y5 := Kep.all g3 (a := ⟨w.heap.size + 1, 5, none⟩) (v := .int .i32 y.o) (Kep.all (kep_more (kep_more (Kep.refl _ _) _) _) y5)
       replace y6 := Kep.all g3 (a := ⟨w.heap.size + 1, 6, none⟩) (v := .int .i32 y.px) (Kep.all (kep_more (kep_more (Kep.refl _ _) _) _) y6)
       replace y7 := Kep.all g3 (a := ⟨w.heap.size + 1, 7, none⟩) (v := .int .i32 y.py) (Kep.all (kep_more (kep_more (Kep.refl _ _) _) _) y7)
       replace y8 := Kep.all g3 (a := ⟨w.heap.size + 1, 8, none⟩) (v := .int .i32 y.vx) (Kep.all (kep_more (kep_more (Kep.refl _ _) _) _) y8)
       replace y9 := Kep.all g3 (a := ⟨w.heap.size + 1, 9, none⟩) (v := .int .i32 y.vy) (Kep.all (kep_more (kep_more (Kep.refl _ _) _) _) y9)
       replace d0 := Kep.all g3 (a := ⟨w.heap.size + 1 + 1, 0, none⟩) (v := .int .i32 vx) (Kep.all (kep_more (kep_more (Kep.refl _ _) _) _) d0)
       replace d1 := Kep.all g3 (a := ⟨w.heap.size + 1 + 1, 1, none⟩) (v := .int .i32 vy) (Kep.all (kep_more (kep_more (Kep.refl _ _) _) _) d1)
       have xx0 := Kep.all g3 (a := ⟨w2.heap.size, 0, none⟩) (v := .int .u32 x.k) (by (repeat (first | rw [World.cell?_drew] | rw [World.cell?_alloc_past _ _ _ (by first | (simp; done) | (simp; omega))])); rw [World.cell?_alloc_at _ _ _ _ (by simp)]; rfl)
       have xx1 := Kep.all g3 (a := ⟨w2.heap.size, 1, none⟩) (v := .int .i32 x.r) (by (repeat (first | rw [World.cell?_drew] | rw [World.cell?_alloc_past _ _ _ (by first | (simp; done) | (simp; omega))])); rw [World.cell?_alloc_at _ _ _ _ (by simp)]; rfl)
       have xx2 := Kep.all g3 (a := ⟨w2.heap.size, 2, none⟩) (v := .int .i32 x.ax) (by (repeat (first | rw [World.cell?_drew] | rw [World.cell?_alloc_past _ _ _ (by first | (simp; done) | (simp; omega))])); rw [World.cell?_alloc_at _ _ _ _ (by simp)]; rfl)
       have xx3 := Kep.all g3 (a := ⟨w2.heap.size, 3, none⟩) (v := .int .i32 x.ay) (by (repeat (first | rw [World.cell?_drew] | rw [World.cell?_alloc_past _ _ _ (by first | (simp; done) | (simp; omega))])); rw [World.cell?_alloc_at _ _ _ _ (by simp)]; rfl)
       have xx4 := Kep.all g3 (a := ⟨w2.heap.size, 4, none⟩) (v := .int .i32 0) (by (repeat (first | rw [World.cell?_drew] | rw [World.cell?_alloc_past _ _ _ (by first | (simp; done) | (simp; omega))])); rw [World.cell?_alloc_at _ _ _ _ (by simp)]; rfl)
       have xx5 := Kep.all g3 (a := ⟨w2.heap.size, 5, none⟩) (v := .int .i32 0) (by (repeat (first | rw [World.cell?_drew] | rw [World.cell?_alloc_past _ _ _ (by first | (simp; done) | (simp; omega))])); rw [World.cell?_alloc_at _ _ _ _ (by simp)]; rfl)
       have xx6 := Kep.all g3 (a := ⟨w2.heap.size, 6, none⟩) (v := .int .i32 ex) (by (repeat (first | rw [World.cell?_drew] | rw [World.cell?_alloc_past _ _ _ (by first | (simp; done) | (simp; omega))])); rw [World.cell?_alloc_at _ _ _ _ (by simp)]; rfl)
       have xx7 := Kep.all g3 (a := ⟨w2.heap.size, 7, none⟩) (v := .int .i32 ey) (by (repeat (first | rw [World.cell?_drew] | rw [World.cell?_alloc_past _ _ _ (by first | (simp; done) | (simp; omega))])); rw [World.cell?_alloc_at _ _ _ _ (by simp)]; rfl)
       have xx8 := Kep.all g3 (a := ⟨w2.heap.size, 8, none⟩) (v := .int .i32 0) (by (repeat (first | rw [World.cell?_drew] | rw [World.cell?_alloc_past _ _ _ (by first | (simp; done) | (simp; omega))])); rw [World.cell?_alloc_at _ _ _ _ (by simp)]; rfl)
       have xx9 := Kep.all g3 (a := ⟨w2.heap.size, 9, none⟩) (v := .int .i32 0) (by (repeat (first | rw [World.cell?_drew] | rw [World.cell?_alloc_past _ _ _ (by first | (simp; done) | (simp; omega))])); rw [World.cell?_alloc_at _ _ _ _ (by simp)]; rfl)
       have yy0 := Kep.all g3 (a := ⟨w2.heap.size + 1, 0, none⟩) (v := .int .u32 y.k) (by (repeat (first | rw [World.cell?_drew] | rw [World.cell?_alloc_past _ _ _ (by first | (simp; done) | (simp; omega))])); rw [World.cell?_alloc_at _ _ _ _ (by simp)]; rfl)
       have yy1 := Kep.all g3 (a := ⟨w2.heap.size + 1, 1, none⟩) (v := .int .i32 y.r) (by (repeat (first | rw [World.cell?_drew] | rw [World.cell?_alloc_past _ _ _ (by first | (simp; done) | (simp; omega))])); rw [World.cell?_alloc_at _ _ _ _ (by simp)]; rfl)
       have yy2 := Kep.all g3 (a := ⟨w2.heap.size + 1, 2, none⟩) (v := .int .i32 y.ax) (by (repeat (first | rw [World.cell?_drew] | rw [World.cell?_alloc_past _ _ _ (by first | (simp; done) | (simp; omega))])); rw [World.cell?_alloc_at _ _ _ _ (by simp)]; rfl)
       have yy3 := Kep.all g3 (a := ⟨w2.heap.size + 1, 3, none⟩) (v := .int .i32 y.ay) (by (repeat (first | rw [World.cell?_drew] | rw [World.cell?_alloc_past _ _ _ (by first | (simp; done) | (simp; omega))])); rw [World.cell?_alloc_at _ _ _ _ (by simp)]; rfl)
       have yy4 := Kep.all g3 (a := ⟨w2.heap.size + 1, 4, none⟩) (v := .int .i32 0) (by (repeat (first | rw [World.cell?_drew] | rw [World.cell?_alloc_past _ _ _ (by first | (simp; done) | (simp; omega))])); rw [World.cell?_alloc_at _ _ _ _ (by simp)]; rfl)
       have yy5 := Kep.all g3 (a := ⟨w2.heap.size + 1, 5, none⟩) (v := .int .i32 0) (by (repeat (first | rw [World.cell?_drew] | rw [World.cell?_alloc_past _ _ _ (by first | (simp; done) | (simp; omega))])); rw [World.cell?_alloc_at _ _ _ _ (by simp)]; rfl)
       have yy6 := Kep.all g3 (a := ⟨w2.heap.size + 1, 6, none⟩) (v := .int .i32 fx) (by (repeat (first | rw [World.cell?_drew] | rw [World.cell?_alloc_past _ _ _ (by first | (simp; done) | (simp; omega))])); rw [World.cell?_alloc_at _ _ _ _ (by simp)]; rfl)
       have yy7 := Kep.all g3 (a := ⟨w2.heap.size + 1, 7, none⟩) (v := .int .i32 fy) (by (repeat (first | rw [World.cell?_drew] | rw [World.cell?_alloc_past _ _ _ (by first | (simp; done) | (simp; omega))])); rw [World.cell?_alloc_at _ _ _ _ (by simp)]; rfl)
       have yy8 := Kep.all g3 (a := ⟨w2.heap.size + 1, 8, none⟩) (v := .int .i32 0) (by (repeat (first | rw [World.cell?_drew] | rw [World.cell?_alloc_past _ _ _ (by first | (simp; done) | (simp; omega))])); rw [World.cell?_alloc_at _ _ _ _ (by simp)]; rfl)
       have yy9 := Kep.all g3 (a := ⟨w2.heap.size + 1, 9, none⟩) (v := .int .i32 0) (by (repeat (first | rw [World.cell?_drew] | rw [World.cell?_alloc_past _ _ _ (by first | (simp; done) | (simp; omega))])); rw [World.cell?_alloc_at _ _ _ _ (by simp)]; rfl)
       replace gg := kep_next (kep_more (kep_more gg _) _) g3
       have zx_w3 : w.heap.size < w3.heap.size := World.block_lt_of_cell? _ _ x0
       have zy_w3 : w.heap.size + 1 < w3.heap.size := World.block_lt_of_cell? _ _ y0
       have zd_w3 : w.heap.size + 1 + 1 < w3.heap.size := World.block_lt_of_cell? _ _ d0
       have zxx_w3 : w2.heap.size < w3.heap.size := World.block_lt_of_cell? _ _ xx0
       have zyy_w3 : w2.heap.size + 1 < w3.heap.size := World.block_lt_of_cell? _ _ yy0)
    | ((with_reducible refine (C1.out _).mono ?_); rintro e w4 ⟨rfl, g4⟩
       replace x0 := Kep.all g4 (a := ⟨w.heap.size, 0, none⟩) (v := .int .u32 x.k) x0
       replace x1 := Kep.all g4 (a := ⟨w.heap.size, 1, none⟩) (v := .int .i32 x.r) x1
       replace x2 := Kep.all g4 (a := ⟨w.heap.size, 2, none⟩) (v := .int .i32 x.ax) x2
       replace x3 := Kep.all g4 (a := ⟨w.heap.size, 3, none⟩) (v := .int .i32 x.ay) x3
       replace x4 := Kep.all g4 (a := ⟨w.heap.size, 4, none⟩) (v := .int .i32 x.m) x4
       replace x5 := Kep.all g4 (a := ⟨w.heap.size, 5, none⟩) (v := .int .i32 x.o) x5
       replace x6 := Kep.all g4 (a := ⟨w.heap.size, 6, none⟩) (v := .int .i32 x.px) x6
       replace x7 := Kep.all g4 (a := ⟨w.heap.size, 7, none⟩) (v := .int .i32 x.py) x7
       replace x8 := Kep.all g4 (a := ⟨w.heap.size, 8, none⟩) (v := .int .i32 x.vx) x8
       replace x9 := Kep.all g4 (a := ⟨w.heap.size, 9, none⟩) (v := .int .i32 x.vy) x9
       replace y0 := Kep.all g4 (a := ⟨w.heap.size + 1, 0, none⟩) (v := .int .u32 y.k) y0
       replace y1 := Kep.all g4 (a := ⟨w.heap.size + 1, 1, none⟩) (v := .int .i32 y.r) y1
       replace y2 := Kep.all g4 (a := ⟨w.heap.size + 1, 2, none⟩) (v := .int .i32 y.ax) y2
       replace y3 := Kep.all g4 (a := ⟨w.heap.size + 1, 3, none⟩) (v := .int .i32 y.ay) y3
       replace y4 := Kep.all g4 (a := ⟨w.heap.size + 1, 4, none⟩) (v := .int .i32 y.m) y4
       replace y5 := Kep.all g4 (a := ⟨w.heap.size + 1, 5, none⟩) (v := .int .i32 y.o) y5
       replace y6 := Kep.all g4 (a := ⟨w.heap.size + 1, 6, none⟩) (v := .int .i32 y.px) y6
       replace y7 := Kep.all g4 (a := ⟨w.heap.size + 1, 7, none⟩) (v := .int .i32 y.py) y7
       replace y8 := Kep.all g4 (a := ⟨w.heap.size + 1, 8, none⟩) (v := .int .i32 y.vx) y8
       replace y9 := Kep.all g4 (a := ⟨w.heap.size + 1, 9, none⟩) (v := .int .i32 y.vy) y9
       replace d0 := Kep.all g4 (a := ⟨w.heap.size + 1 + 1, 0, none⟩) (v := .int .i32 vx) d0
       replace d1 := Kep.all g4 (a := ⟨w.heap.size + 1 + 1, 1, none⟩) (v := .int .i32 vy) d1
       replace xx0 := Kep.all g4 (a := ⟨w2.heap.size, 0, none⟩) (v := .int .u32 x.k) xx0
       replace xx1 := Kep.all g4 (a := ⟨w2.heap.size, 1, none⟩) (v := .int .i32 x.r) xx1
       replace xx2 := Kep.all g4 (a := ⟨w2.heap.size, 2, none⟩) (v := .int .i32 x.ax) xx2
       replace xx3 := Kep.all g4 (a := ⟨w2.heap.size, 3, none⟩) (v := .int .i32 x.ay) xx3
       replace xx4 := Kep.all g4 (a := ⟨w2.heap.size, 4, none⟩) (v := .int .i32 0) xx4
       replace xx5 := Kep.all g4 (a := ⟨w2.heap.size, 5, none⟩) (v := .int .i32 0) xx5
       replace xx6 := Kep.all g4 (a := ⟨w2.heap.size, 6, none⟩) (v := .int .i32 ex) xx6
       replace xx7 := Kep.all g4 (a := ⟨w2.heap.size, 7, none⟩) (v := .int .i32 ey) xx7
       replace xx8 := Kep.all g4 (a := ⟨w2.heap.size, 8, none⟩) (v := .int .i32 0) xx8
       replace xx9 := Kep.all g4 (a := ⟨w2.heap.size, 9, none⟩) (v := .int .i32 0) xx9
       replace yy0 := Kep.all g4 (a := ⟨w2.heap.size + 1, 0, none⟩) (v := .int .u32 y.k) yy0
       replace yy1 := Kep.all g4 (a := ⟨w2.heap.size + 1, 1, none⟩) (v := .int .i32 y.r) yy1
       replace yy2 := Kep.all g4 (a := ⟨w2.heap.size + 1, 2, none⟩) (v := .int .i32 y.ax) yy2
       replace yy3 := Kep.all g4 (a := ⟨w2.heap.size + 1, 3, none⟩) (v := .int .i32 y.ay) yy3
       replace yy4 := Kep.all g4 (a := ⟨w2.heap.size + 1, 4, none⟩) (v := .int .i32 0) yy4
       replace yy5 := Kep.all g4 (a := ⟨w2.heap.size + 1, 5, none⟩) (v := .int .i32 0) yy5
       replace yy6 := Kep.all g4 (a := ⟨w2.heap.size + 1, 6, none⟩) (v := .int .i32 fx) yy6
       replace yy7 := Kep.all g4 (a := ⟨w2.heap.size + 1, 7, none⟩) (v := .int .i32 fy) yy7
       replace yy8 := Kep.all g4 (a := ⟨w2.heap.size + 1, 8, none⟩) (v := .int .i32 0) yy8
       replace yy9 := Kep.all g4 (a := ⟨w2.heap.size + 1, 9, none⟩) (v := .int .i32 0) yy9
       replace gg := kep_next gg g4
       have zx_w4 : w.heap.size < w4.heap.size := World.block_lt_of_cell? _ _ x0
       have zy_w4 : w.heap.size + 1 < w4.heap.size := World.block_lt_of_cell? _ _ y0
       have zd_w4 : w.heap.size + 1 + 1 < w4.heap.size := World.block_lt_of_cell? _ _ d0
       have zxx_w4 : w2.heap.size < w4.heap.size := World.block_lt_of_cell? _ _ xx0
       have zyy_w4 : w2.heap.size + 1 < w4.heap.size := World.block_lt_of_cell? _ _ yy0)
    | ((with_reducible refine (C2.out _).mono ?_); rintro e w5 ⟨rfl, g5⟩
       replace x0 := Kep.all g5 (a := ⟨w.heap.size, 0, none⟩) (v := .int .u32 x.k) (Kep.all (kep_more (Kep.refl _ _) _) x0)
       replace x1 := Kep.all g5 (a := ⟨w.heap.size, 1, none⟩) (v := .int .i32 x.r) (Kep.all (kep_more (Kep.refl _ _) _) x1)
       replace x2 := Kep.all g5 (a := ⟨w.heap.size, 2, none⟩) (v := .int .i32 x.ax) (Kep.all (kep_more (Kep.refl _ _) _) x2)
       replace x3 := Kep.all g5 (a := ⟨w.heap.size, 3, none⟩) (v := .int .i32 x.ay) (Kep.all (kep_more (Kep.refl _ _) _) x3)
       replace x4 := Kep.all g5 (a := ⟨w.heap.size, 4, none⟩) (v := .int .i32 x.m) (Kep.all (kep_more (Kep.refl _ _) _) x4)
       replace x5 := Kep.all g5 (a := ⟨w.heap.size, 5, none⟩) (v := .int .i32 x.o) (Kep.all (kep_more (Kep.refl _ _) _) x5)
       replace x6 := Kep.all g5 (a := ⟨w.heap.size, 6, none⟩) (v := .int .i32 x.px) (Kep.all (kep_more (Kep.refl _ _) _) x6)
       replace x7 := Kep.all g5 (a := ⟨w.heap.size, 7, none⟩) (v := .int .i32 x.py) (Kep.all (kep_more (Kep.refl _ _) _) x7)
       replace x8 := Kep.all g5 (a := ⟨w.heap.size, 8, none⟩) (v := .int .i32 x.vx) (Kep.all (kep_more (Kep.refl _ _) _) x8)
       replace x9 := Kep.all g5 (a := ⟨w.heap.size, 9, none⟩) (v := .int .i32 x.vy) (Kep.all (kep_more (Kep.refl _ _) _) x9)
       replace y0 := Kep.all g5 (a := ⟨w.heap.size + 1, 0, none⟩) (v := .int .u32 y.k) (Kep.all (kep_more (Kep.refl _ _) _) y0)
       replace y1 := Kep.all g5 (a := ⟨w.heap.size + 1, 1, none⟩) (v := .int .i32 y.r) (Kep.all (kep_more (Kep.refl _ _) _) y1)
       replace y2 := Kep.all g5 (a := ⟨w.heap.size + 1, 2, none⟩) (v := .int .i32 y.ax) (Kep.all (kep_more (Kep.refl _ _) _) y2)
       replace y3 := Kep.all g5 (a := ⟨w.heap.size + 1, 3, none⟩) (v := .int .i32 y.ay) (Kep.all (kep_more (Kep.refl _ _) _) y3)
       replace y4 := Kep.all g5 (a := ⟨w.heap.size + 1, 4, none⟩) (v := .int .i32 y.m) (Kep.all (kep_more (Kep.refl _ _) _) y4)
       replace y5 := Kep.all g5 (a := ⟨w.heap.size + 1, 5, none⟩) (v := .int .i32 y.o) (Kep.all (kep_more (Kep.refl _ _) _) y5)
       replace y6 := Kep.all g5 (a := ⟨w.heap.size + 1, 6, none⟩) (v := .int .i32 y.px) (Kep.all (kep_more (Kep.refl _ _) _) y6)
       replace y7 := Kep.all g5 (a := ⟨w.heap.size + 1, 7, none⟩) (v := .int .i32 y.py) (Kep.all (kep_more (Kep.refl _ _) _) y7)
       replace y8 := Kep.all g5 (a := ⟨w.heap.size + 1, 8, none⟩) (v := .int .i32 y.vx) (Kep.all (kep_more (Kep.refl _ _) _) y8)
       replace y9 := Kep.all g5 (a := ⟨w.heap.size + 1, 9, none⟩) (v := .int .i32 y.vy) (Kep.all (kep_more (Kep.refl _ _) _) y9)
       replace d0 := Kep.all g5 (a := ⟨w.heap.size + 1 + 1, 0, none⟩) (v := .int .i32 vx) (Kep.all (kep_more (Kep.refl _ _) _) d0)
       replace d1 := Kep.all g5 (a := ⟨w.heap.size + 1 + 1, 1, none⟩) (v := .int .i32 vy) (Kep.all (kep_more (Kep.refl _ _) _) d1)
       replace xx0 := Kep.all g5 (a := ⟨w2.heap.size, 0, none⟩) (v := .int .u32 x.k) (Kep.all (kep_more (Kep.refl _ _) _) xx0)
       replace xx1 := Kep.all g5 (a := ⟨w2.heap.size, 1, none⟩) (v := .int .i32 x.r) (Kep.all (kep_more (Kep.refl _ _) _) xx1)
       replace xx2 := Kep.all g5 (a := ⟨w2.heap.size, 2, none⟩) (v := .int .i32 x.ax) (Kep.all (kep_more (Kep.refl _ _) _) xx2)
       replace xx3 := Kep.all g5 (a := ⟨w2.heap.size, 3, none⟩) (v := .int .i32 x.ay) (Kep.all (kep_more (Kep.refl _ _) _) xx3)
       replace xx4 := Kep.all g5 (a := ⟨w2.heap.size, 4, none⟩) (v := .int .i32 0) (Kep.all (kep_more (Kep.refl _ _) _) xx4)
       replace xx5 := Kep.all g5 (a := ⟨w2.heap.size, 5, none⟩) (v := .int .i32 0) (Kep.all (kep_more (Kep.refl _ _) _) xx5)
       replace xx6 := Kep.all g5 (a := ⟨w2.heap.size, 6, none⟩) (v := .int .i32 ex) (Kep.all (kep_more (Kep.refl _ _) _) xx6)
       replace xx7 := Kep.all g5 (a := ⟨w2.heap.size, 7, none⟩) (v := .int .i32 ey) (Kep.all (kep_more (Kep.refl _ _) _) xx7)
       replace xx8 := Kep.all g5 (a := ⟨w2.heap.size, 8, none⟩) (v := .int .i32 0) (Kep.all (kep_more (Kep.refl _ _) _) xx8)
       replace xx9 := Kep.all g5 (a := ⟨w2.heap.size, 9, none⟩) (v := .int .i32 0) (Kep.all (kep_more (Kep.refl _ _) _) xx9)
       replace yy0 := Kep.all g5 (a := ⟨w2.heap.size + 1, 0, none⟩) (v := .int .u32 y.k) (Kep.all (kep_more (Kep.refl _ _) _) yy0)
       replace yy1 := Kep.all g5 (a := ⟨w2.heap.size + 1, 1, none⟩) (v := .int .i32 y.r) (Kep.all (kep_more (Kep.refl _ _) _) yy1)
       replace yy2 := Kep.all g5 (a := ⟨w2.heap.size + 1, 2, none⟩) (v := .int .i32 y.ax) (Kep.all (kep_more (Kep.refl _ _) _) yy2)
       replace yy3 := Kep.all g5 (a := ⟨w2.heap.size + 1, 3, none⟩) (v := .int .i32 y.ay) (Kep.all (kep_more (Kep.refl _ _) _) yy3)
       replace yy4 := Kep.all g5 (a := ⟨w2.heap.size + 1, 4, none⟩) (v := .int .i32 0) (Kep.all (kep_more (Kep.refl _ _) _) yy4)
       replace yy5 := Kep.all g5 (a := ⟨w2.heap.size + 1, 5, none⟩) (v := .int .i32 0) (Kep.all (kep_more (Kep.refl _ _) _) yy5)
       replace yy6 := Kep.all g5 (a := ⟨w2.heap.size + 1, 6, none⟩) (v := .int .i32 fx) (Kep.all (kep_more (Kep.refl _ _) _) yy6)
       replace yy7 := Kep.all g5 (a := ⟨w2.heap.size + 1, 7, none⟩) (v := .int .i32 fy) (Kep.all (kep_more (Kep.refl _ _) _) yy7)
       replace yy8 := Kep.all g5 (a := ⟨w2.heap.size + 1, 8, none⟩) (v := .int .i32 0) (Kep.all (kep_more (Kep.refl _ _) _) yy8)
       replace yy9 := Kep.all g5 (a := ⟨w2.heap.size + 1, 9, none⟩) (v := .int .i32 0) (Kep.all (kep_more (Kep.refl _ _) _) yy9)
       have c0 := Kep.all g5 (a := ⟨w4.heap.size, 0, none⟩) (v := .int .u32 v0) (by (repeat (first | rw [World.cell?_drew] | rw [World.cell?_alloc_past _ _ _ (by first | (simp; done) | (simp; omega))])); rw [World.cell?_alloc_at _ _ _ _ (by simp)]; rfl)
       have c1 := Kep.all g5 (a := ⟨w4.heap.size, 1, none⟩) (v := .int .u32 v1) (by (repeat (first | rw [World.cell?_drew] | rw [World.cell?_alloc_past _ _ _ (by first | (simp; done) | (simp; omega))])); rw [World.cell?_alloc_at _ _ _ _ (by simp)]; rfl)
       have c2 := Kep.all g5 (a := ⟨w4.heap.size, 2, none⟩) (v := .int .i32 v2) (by (repeat (first | rw [World.cell?_drew] | rw [World.cell?_alloc_past _ _ _ (by first | (simp; done) | (simp; omega))])); rw [World.cell?_alloc_at _ _ _ _ (by simp)]; rfl)
       have c3 := Kep.all g5 (a := ⟨w4.heap.size, 3, none⟩) (v := .int .i32 v3) (by (repeat (first | rw [World.cell?_drew] | rw [World.cell?_alloc_past _ _ _ (by first | (simp; done) | (simp; omega))])); rw [World.cell?_alloc_at _ _ _ _ (by simp)]; rfl)
       have c4 := Kep.all g5 (a := ⟨w4.heap.size, 4, none⟩) (v := .int .i32 v4) (by (repeat (first | rw [World.cell?_drew] | rw [World.cell?_alloc_past _ _ _ (by first | (simp; done) | (simp; omega))])); rw [World.cell?_alloc_at _ _ _ _ (by simp)]; rfl)
       replace gg := kep_next (kep_more gg _) g5
       have zx_w5 : w.heap.size < w5.heap.size := World.block_lt_of_cell? _ _ x0
       have zy_w5 : w.heap.size + 1 < w5.heap.size := World.block_lt_of_cell? _ _ y0
       have zd_w5 : w.heap.size + 1 + 1 < w5.heap.size := World.block_lt_of_cell? _ _ d0
       have zxx_w5 : w2.heap.size < w5.heap.size := World.block_lt_of_cell? _ _ xx0
       have zyy_w5 : w2.heap.size + 1 < w5.heap.size := World.block_lt_of_cell? _ _ yy0
       have zc_w5 : w4.heap.size < w5.heap.size := World.block_lt_of_cell? _ _ c0))
  generalize hW : World.alloc w5 _ = W6
  replace x0 : W6.cell? ⟨w.heap.size, 0, none⟩ = some (.int .u32 x.k) := by rw [← hW]; exact (Kep.all (kep_more (Kep.refl _ _) _) x0)
  replace x1 : W6.cell? ⟨w.heap.size, 1, none⟩ = some (.int .i32 x.r) := by rw [← hW]; exact (Kep.all (kep_more (Kep.refl _ _) _) x1)
  replace x2 : W6.cell? ⟨w.heap.size, 2, none⟩ = some (.int .i32 x.ax) := by rw [← hW]; exact (Kep.all (kep_more (Kep.refl _ _) _) x2)
  replace x3 : W6.cell? ⟨w.heap.size, 3, none⟩ = some (.int .i32 x.ay) := by rw [← hW]; exact (Kep.all (kep_more (Kep.refl _ _) _) x3)
  replace x4 : W6.cell? ⟨w.heap.size, 4, none⟩ = some (.int .i32 x.m) := by rw [← hW]; exact (Kep.all (kep_more (Kep.refl _ _) _) x4)
  replace x5 : W6.cell? ⟨w.heap.size, 5, none⟩ = some (.int .i32 x.o) := by rw [← hW]; exact (Kep.all (kep_more (Kep.refl _ _) _) x5)
  replace x6 : W6.cell? ⟨w.heap.size, 6, none⟩ = some (.int .i32 x.px) := by rw [← hW]; exact (Kep.all (kep_more (Kep.refl _ _) _) x6)
  replace x7 : W6.cell? ⟨w.heap.size, 7, none⟩ = some (.int .i32 x.py) := by rw [← hW]; exact (Kep.all (kep_more (Kep.refl _ _) _) x7)
  replace x8 : W6.cell? ⟨w.heap.size, 8, none⟩ = some (.int .i32 x.vx) := by rw [← hW]; exact (Kep.all (kep_more (Kep.refl _ _) _) x8)
  replace x9 : W6.cell? ⟨w.heap.size, 9, none⟩ = some (.int .i32 x.vy) := by rw [← hW]; exact (Kep.all (kep_more (Kep.refl _ _) _) x9)
  replace y0 : W6.cell? ⟨w.heap.size + 1, 0, none⟩ = some (.int .u32 y.k) := by rw [← hW]; exact (Kep.all (kep_more (Kep.refl _ _) _) y0)
  replace y1 : W6.cell? ⟨w.heap.size + 1, 1, none⟩ = some (.int .i32 y.r) := by rw [← hW]; exact (Kep.all (kep_more (Kep.refl _ _) _) y1)
  replace y2 : W6.cell? ⟨w.heap.size + 1, 2, none⟩ = some (.int .i32 y.ax) := by rw [← hW]; exact (Kep.all (kep_more (Kep.refl _ _) _) y2)
  replace y3 : W6.cell? ⟨w.heap.size + 1, 3, none⟩ = some (.int .i32 y.ay) := by rw [← hW]; exact (Kep.all (kep_more (Kep.refl _ _) _) y3)
  replace y4 : W6.cell? ⟨w.heap.size + 1, 4, none⟩ = some (.int .i32 y.m) := by rw [← hW]; exact (Kep.all (kep_more (Kep.refl _ _) _) y4)
  replace y5 : W6.cell? ⟨w.heap.size + 1, 5, none⟩ = some (.int .i32 y.o) := by rw [← hW]; exact (Kep.all (kep_more (Kep.refl _ _) _) y5)
  replace y6 : W6.cell? ⟨w.heap.size + 1, 6, none⟩ = some (.int .i32 y.px) := by rw [← hW]; exact (Kep.all (kep_more (Kep.refl _ _) _) y6)
  replace y7 : W6.cell? ⟨w.heap.size + 1, 7, none⟩ = some (.int .i32 y.py) := by rw [← hW]; exact (Kep.all (kep_more (Kep.refl _ _) _) y7)
  replace y8 : W6.cell? ⟨w.heap.size + 1, 8, none⟩ = some (.int .i32 y.vx) := by rw [← hW]; exact (Kep.all (kep_more (Kep.refl _ _) _) y8)
  replace y9 : W6.cell? ⟨w.heap.size + 1, 9, none⟩ = some (.int .i32 y.vy) := by rw [← hW]; exact (Kep.all (kep_more (Kep.refl _ _) _) y9)
  replace d0 : W6.cell? ⟨w.heap.size + 1 + 1, 0, none⟩ = some (.int .i32 vx) := by rw [← hW]; exact (Kep.all (kep_more (Kep.refl _ _) _) d0)
  replace d1 : W6.cell? ⟨w.heap.size + 1 + 1, 1, none⟩ = some (.int .i32 vy) := by rw [← hW]; exact (Kep.all (kep_more (Kep.refl _ _) _) d1)
  replace xx0 : W6.cell? ⟨w2.heap.size, 0, none⟩ = some (.int .u32 x.k) := by rw [← hW]; exact (Kep.all (kep_more (Kep.refl _ _) _) xx0)
  replace xx1 : W6.cell? ⟨w2.heap.size, 1, none⟩ = some (.int .i32 x.r) := by rw [← hW]; exact (Kep.all (kep_more (Kep.refl _ _) _) xx1)
  replace xx2 : W6.cell? ⟨w2.heap.size, 2, none⟩ = some (.int .i32 x.ax) := by rw [← hW]; exact (Kep.all (kep_more (Kep.refl _ _) _) xx2)
  replace xx3 : W6.cell? ⟨w2.heap.size, 3, none⟩ = some (.int .i32 x.ay) := by rw [← hW]; exact (Kep.all (kep_more (Kep.refl _ _) _) xx3)
  replace xx4 : W6.cell? ⟨w2.heap.size, 4, none⟩ = some (.int .i32 0) := by rw [← hW]; exact (Kep.all (kep_more (Kep.refl _ _) _) xx4)
  replace xx5 : W6.cell? ⟨w2.heap.size, 5, none⟩ = some (.int .i32 0) := by rw [← hW]; exact (Kep.all (kep_more (Kep.refl _ _) _) xx5)
  replace xx6 : W6.cell? ⟨w2.heap.size, 6, none⟩ = some (.int .i32 ex) := by rw [← hW]; exact (Kep.all (kep_more (Kep.refl _ _) _) xx6)
  replace xx7 : W6.cell? ⟨w2.heap.size, 7, none⟩ = some (.int .i32 ey) := by rw [← hW]; exact (Kep.all (kep_more (Kep.refl _ _) _) xx7)
  replace xx8 : W6.cell? ⟨w2.heap.size, 8, none⟩ = some (.int .i32 0) := by rw [← hW]; exact (Kep.all (kep_more (Kep.refl _ _) _) xx8)
  replace xx9 : W6.cell? ⟨w2.heap.size, 9, none⟩ = some (.int .i32 0) := by rw [← hW]; exact (Kep.all (kep_more (Kep.refl _ _) _) xx9)
  replace yy0 : W6.cell? ⟨w2.heap.size + 1, 0, none⟩ = some (.int .u32 y.k) := by rw [← hW]; exact (Kep.all (kep_more (Kep.refl _ _) _) yy0)
  replace yy1 : W6.cell? ⟨w2.heap.size + 1, 1, none⟩ = some (.int .i32 y.r) := by rw [← hW]; exact (Kep.all (kep_more (Kep.refl _ _) _) yy1)
  replace yy2 : W6.cell? ⟨w2.heap.size + 1, 2, none⟩ = some (.int .i32 y.ax) := by rw [← hW]; exact (Kep.all (kep_more (Kep.refl _ _) _) yy2)
  replace yy3 : W6.cell? ⟨w2.heap.size + 1, 3, none⟩ = some (.int .i32 y.ay) := by rw [← hW]; exact (Kep.all (kep_more (Kep.refl _ _) _) yy3)
  replace yy4 : W6.cell? ⟨w2.heap.size + 1, 4, none⟩ = some (.int .i32 0) := by rw [← hW]; exact (Kep.all (kep_more (Kep.refl _ _) _) yy4)
  replace yy5 : W6.cell? ⟨w2.heap.size + 1, 5, none⟩ = some (.int .i32 0) := by rw [← hW]; exact (Kep.all (kep_more (Kep.refl _ _) _) yy5)
  replace yy6 : W6.cell? ⟨w2.heap.size + 1, 6, none⟩ = some (.int .i32 fx) := by rw [← hW]; exact (Kep.all (kep_more (Kep.refl _ _) _) yy6)
  replace yy7 : W6.cell? ⟨w2.heap.size + 1, 7, none⟩ = some (.int .i32 fy) := by rw [← hW]; exact (Kep.all (kep_more (Kep.refl _ _) _) yy7)
  replace yy8 : W6.cell? ⟨w2.heap.size + 1, 8, none⟩ = some (.int .i32 0) := by rw [← hW]; exact (Kep.all (kep_more (Kep.refl _ _) _) yy8)
  replace yy9 : W6.cell? ⟨w2.heap.size + 1, 9, none⟩ = some (.int .i32 0) := by rw [← hW]; exact (Kep.all (kep_more (Kep.refl _ _) _) yy9)
  replace c0 : W6.cell? ⟨w4.heap.size, 0, none⟩ = some (.int .u32 v0) := by rw [← hW]; exact (Kep.all (kep_more (Kep.refl _ _) _) c0)
  replace c1 : W6.cell? ⟨w4.heap.size, 1, none⟩ = some (.int .u32 v1) := by rw [← hW]; exact (Kep.all (kep_more (Kep.refl _ _) _) c1)
  replace c2 : W6.cell? ⟨w4.heap.size, 2, none⟩ = some (.int .i32 v2) := by rw [← hW]; exact (Kep.all (kep_more (Kep.refl _ _) _) c2)
  replace c3 : W6.cell? ⟨w4.heap.size, 3, none⟩ = some (.int .i32 v3) := by rw [← hW]; exact (Kep.all (kep_more (Kep.refl _ _) _) c3)
  replace c4 : W6.cell? ⟨w4.heap.size, 4, none⟩ = some (.int .i32 v4) := by rw [← hW]; exact (Kep.all (kep_more (Kep.refl _ _) _) c4)
  have e0 : W6.cell? ⟨w5.heap.size, 0, none⟩ = some (.int .u32 v0) := by
    rw [← hW]
    (repeat (first | rw [World.cell?_drew] | rw [World.cell?_alloc_past _ _ _ (by first | (simp; done) | (simp; omega))])); rw [World.cell?_alloc_at _ _ _ _ (by simp)]; rfl
  have e1 : W6.cell? ⟨w5.heap.size, 1, none⟩ = some (.int .u32 v1) := by
    rw [← hW]
    (repeat (first | rw [World.cell?_drew] | rw [World.cell?_alloc_past _ _ _ (by first | (simp; done) | (simp; omega))])); rw [World.cell?_alloc_at _ _ _ _ (by simp)]; rfl
  have e2 : W6.cell? ⟨w5.heap.size, 2, none⟩ = some (.int .i32 v2) := by
    rw [← hW]
    (repeat (first | rw [World.cell?_drew] | rw [World.cell?_alloc_past _ _ _ (by first | (simp; done) | (simp; omega))])); rw [World.cell?_alloc_at _ _ _ _ (by simp)]; rfl
  have e3 : W6.cell? ⟨w5.heap.size, 3, none⟩ = some (.int .i32 v3) := by
    rw [← hW]
    (repeat (first | rw [World.cell?_drew] | rw [World.cell?_alloc_past _ _ _ (by first | (simp; done) | (simp; omega))])); rw [World.cell?_alloc_at _ _ _ _ (by simp)]; rfl
  have e4 : W6.cell? ⟨w5.heap.size, 4, none⟩ = some (.int .i32 v4) := by
    rw [← hW]
    (repeat (first | rw [World.cell?_drew] | rw [World.cell?_alloc_past _ _ _ (by first | (simp; done) | (simp; omega))])); rw [World.cell?_alloc_at _ _ _ _ (by simp)]; rfl
  replace gg : Kep w.heap.size w W6 := by rw [← hW]; exact (kep_more gg _)
  clear hW
  have zx_W6 : w.heap.size < W6.heap.size := World.block_lt_of_cell? _ _ x0
  have zy_W6 : w.heap.size + 1 < W6.heap.size := World.block_lt_of_cell? _ _ y0
  have zd_W6 : w.heap.size + 1 + 1 < W6.heap.size := World.block_lt_of_cell? _ _ d0
  have zxx_W6 : w2.heap.size < W6.heap.size := World.block_lt_of_cell? _ _ xx0
  have zyy_W6 : w2.heap.size + 1 < W6.heap.size := World.block_lt_of_cell? _ _ yy0
  have zc_W6 : w4.heap.size < W6.heap.size := World.block_lt_of_cell? _ _ c0
  have ze_W6 : w5.heap.size < W6.heap.size := World.block_lt_of_cell? _ _ e0
  refine wp_region_noPanic ?_
  refine wp_region_held_drew (S := (fun w' => w'.cell? ⟨w.heap.size, 0, none⟩ = some (.int .u32 x.k) ∧ w'.cell? ⟨w.heap.size, 1, none⟩ = some (.int .i32 x.r) ∧ w'.cell? ⟨w.heap.size, 2, none⟩ = some (.int .i32 x.ax) ∧ w'.cell? ⟨w.heap.size, 3, none⟩ = some (.int .i32 x.ay) ∧ w'.cell? ⟨w.heap.size, 4, none⟩ = some (.int .i32 x.m) ∧ w'.cell? ⟨w.heap.size, 5, none⟩ = some (.int .i32 x.o) ∧ w'.cell? ⟨w.heap.size, 6, none⟩ = some (.int .i32 x.px) ∧ w'.cell? ⟨w.heap.size, 7, none⟩ = some (.int .i32 x.py) ∧ w'.cell? ⟨w.heap.size, 8, none⟩ = some (.int .i32 x.vx) ∧ w'.cell? ⟨w.heap.size, 9, none⟩ = some (.int .i32 x.vy) ∧ w'.cell? ⟨w.heap.size + 1, 0, none⟩ = some (.int .u32 y.k) ∧ w'.cell? ⟨w.heap.size + 1, 1, none⟩ = some (.int .i32 y.r) ∧ w'.cell? ⟨w.heap.size + 1, 2, none⟩ = some (.int .i32 y.ax) ∧ w'.cell? ⟨w.heap.size + 1, 3, none⟩ = some (.int .i32 y.ay) ∧ w'.cell? ⟨w.heap.size + 1, 4, none⟩ = some (.int .i32 y.m) ∧ w'.cell? ⟨w.heap.size + 1, 5, none⟩ = some (.int .i32 y.o) ∧ w'.cell? ⟨w.heap.size + 1, 6, none⟩ = some (.int .i32 y.px) ∧ w'.cell? ⟨w.heap.size + 1, 7, none⟩ = some (.int .i32 y.py) ∧ w'.cell? ⟨w.heap.size + 1, 8, none⟩ = some (.int .i32 y.vx) ∧ w'.cell? ⟨w.heap.size + 1, 9, none⟩ = some (.int .i32 y.vy) ∧ w'.cell? ⟨w.heap.size + 1 + 1, 0, none⟩ = some (.int .i32 vx) ∧ w'.cell? ⟨w.heap.size + 1 + 1, 1, none⟩ = some (.int .i32 vy) ∧ w'.cell? ⟨w2.heap.size, 0, none⟩ = some (.int .u32 x.k) ∧ w'.cell? ⟨w2.heap.size, 1, none⟩ = some (.int .i32 x.r) ∧ w'.cell? ⟨w2.heap.size, 2, none⟩ = some (.int .i32 x.ax) ∧ w'.cell? ⟨w2.heap.size, 3, none⟩ = some (.int .i32 x.ay) ∧ w'.cell? ⟨w2.heap.size, 4, none⟩ = some (.int .i32 0) ∧ w'.cell? ⟨w2.heap.size, 5, none⟩ = some (.int .i32 0) ∧ w'.cell? ⟨w2.heap.size, 6, none⟩ = some (.int .i32 ex) ∧ w'.cell? ⟨w2.heap.size, 7, none⟩ = some (.int .i32 ey) ∧ w'.cell? ⟨w2.heap.size, 8, none⟩ = some (.int .i32 0) ∧ w'.cell? ⟨w2.heap.size, 9, none⟩ = some (.int .i32 0) ∧ w'.cell? ⟨w2.heap.size + 1, 0, none⟩ = some (.int .u32 y.k) ∧ w'.cell? ⟨w2.heap.size + 1, 1, none⟩ = some (.int .i32 y.r) ∧ w'.cell? ⟨w2.heap.size + 1, 2, none⟩ = some (.int .i32 y.ax) ∧ w'.cell? ⟨w2.heap.size + 1, 3, none⟩ = some (.int .i32 y.ay) ∧ w'.cell? ⟨w2.heap.size + 1, 4, none⟩ = some (.int .i32 0) ∧ w'.cell? ⟨w2.heap.size + 1, 5, none⟩ = some (.int .i32 0) ∧ w'.cell? ⟨w2.heap.size + 1, 6, none⟩ = some (.int .i32 fx) ∧ w'.cell? ⟨w2.heap.size + 1, 7, none⟩ = some (.int .i32 fy) ∧ w'.cell? ⟨w2.heap.size + 1, 8, none⟩ = some (.int .i32 0) ∧ w'.cell? ⟨w2.heap.size + 1, 9, none⟩ = some (.int .i32 0) ∧ w'.cell? ⟨w4.heap.size, 0, none⟩ = some (.int .u32 v0) ∧ w'.cell? ⟨w4.heap.size, 1, none⟩ = some (.int .u32 v1) ∧ w'.cell? ⟨w4.heap.size, 2, none⟩ = some (.int .i32 v2) ∧ w'.cell? ⟨w4.heap.size, 3, none⟩ = some (.int .i32 v3) ∧ w'.cell? ⟨w4.heap.size, 4, none⟩ = some (.int .i32 v4) ∧ w'.cell? ⟨w5.heap.size, 0, none⟩ = some (.int .u32 v0) ∧ w'.cell? ⟨w5.heap.size, 1, none⟩ = some (.int .u32 v1) ∧ w'.cell? ⟨w5.heap.size, 2, none⟩ = some (.int .i32 v2) ∧ w'.cell? ⟨w5.heap.size, 3, none⟩ = some (.int .i32 v3) ∧ w'.cell? ⟨w5.heap.size, 4, none⟩ = some (.int .i32 v4) ∧ Kep w.heap.size w w')) (by kernel_rfl) (⟨by rw [World.cell?_drew]; exact x0, by rw [World.cell?_drew]; exact x1, by rw [World.cell?_drew]; exact x2, by rw [World.cell?_drew]; exact x3, by rw [World.cell?_drew]; exact x4, by rw [World.cell?_drew]; exact x5, by rw [World.cell?_drew]; exact x6, by rw [World.cell?_drew]; exact x7, by rw [World.cell?_drew]; exact x8, by rw [World.cell?_drew]; exact x9, by rw [World.cell?_drew]; exact y0, by rw [World.cell?_drew]; exact y1, by rw [World.cell?_drew]; exact y2, by rw [World.cell?_drew]; exact y3, by rw [World.cell?_drew]; exact y4, by rw [World.cell?_drew]; exact y5, by rw [World.cell?_drew]; exact y6, by rw [World.cell?_drew]; exact y7, by rw [World.cell?_drew]; exact y8, by rw [World.cell?_drew]; exact y9, by rw [World.cell?_drew]; exact d0, by rw [World.cell?_drew]; exact d1, by rw [World.cell?_drew]; exact xx0, by rw [World.cell?_drew]; exact xx1, by rw [World.cell?_drew]; exact xx2, by rw [World.cell?_drew]; exact xx3, by rw [World.cell?_drew]; exact xx4, by rw [World.cell?_drew]; exact xx5, by rw [World.cell?_drew]; exact xx6, by rw [World.cell?_drew]; exact xx7, by rw [World.cell?_drew]; exact xx8, by rw [World.cell?_drew]; exact xx9, by rw [World.cell?_drew]; exact yy0, by rw [World.cell?_drew]; exact yy1, by rw [World.cell?_drew]; exact yy2, by rw [World.cell?_drew]; exact yy3, by rw [World.cell?_drew]; exact yy4, by rw [World.cell?_drew]; exact yy5, by rw [World.cell?_drew]; exact yy6, by rw [World.cell?_drew]; exact yy7, by rw [World.cell?_drew]; exact yy8, by rw [World.cell?_drew]; exact yy9, by rw [World.cell?_drew]; exact c0, by rw [World.cell?_drew]; exact c1, by rw [World.cell?_drew]; exact c2, by rw [World.cell?_drew]; exact c3, by rw [World.cell?_drew]; exact c4, by rw [World.cell?_drew]; exact e0, by rw [World.cell?_drew]; exact e1, by rw [World.cell?_drew]; exact e2, by rw [World.cell?_drew]; exact e3, by rw [World.cell?_drew]; exact e4, kep_drew gg⟩) (fun hH => ?_)
  refine wpAnyH_take (i := 0) (oi := { dst := some 90, op := Op.load 32 (Operand.tmp 9), type := _, pos := _, after := _, guard := none }) (v := ?_) rfl (by kernel_rfl) (by kernel_rfl) (by kernel_rfl) (fun _ _ _ h => h) (Or.inl ⟨by rfl, ?_⟩) hH ?_
  rotate_left
  · (intro w hSw; (try dsimp only at hSw); go_simp; (try with_reducible rfl))
  try simp only [Act.put, List.setIfInBounds_toArray, List.set_cons_zero, List.set_cons_succ]
  refine wpAnyH_take (i := 1) (oi := { dst := some 91, op := Op.load 32 (Operand.tmp 11), type := _, pos := _, after := _, guard := none }) (v := ?_) rfl (by kernel_rfl) (by kernel_rfl) (by kernel_rfl) (fun _ _ _ h => h) (Or.inl ⟨by rfl, ?_⟩) hH ?_
  rotate_left
  · (intro w hSw; (try dsimp only at hSw); go_simp; (try with_reducible rfl))
  try simp only [Act.put, List.setIfInBounds_toArray, List.set_cons_zero, List.set_cons_succ]
  refine wpAnyH_take (i := 2) (oi := { dst := some 92, op := Op.binOp BinOp.eql 32 (Operand.tmp 90) (Operand.tmp 91) 32, type := _, pos := _, after := _, guard := none }) (v := ?_) rfl (by kernel_rfl) (by kernel_rfl) (by kernel_rfl) (fun _ _ _ h => h) (Or.inl ⟨by rfl, ?_⟩) hH ?_
  rotate_left
  · (intro w hSw; (try dsimp only at hSw); go_simp; (try with_reducible rfl))
  try simp only [Act.put, List.setIfInBounds_toArray, List.set_cons_zero, List.set_cons_succ]
  refine wpAnyH_take (i := 3) (oi := { dst := some 93, op := Op.move (Operand.tmp 92), type := _, pos := _, after := _, guard := none }) (v := ?_) rfl (by kernel_rfl) (by kernel_rfl) (by kernel_rfl) (fun _ _ _ h => h) (Or.inl ⟨by rfl, ?_⟩) hH ?_
  rotate_left
  · (intro w hSw; (try dsimp only at hSw); go_simp; (try with_reducible rfl))
  try simp only [Act.put, List.setIfInBounds_toArray, List.set_cons_zero, List.set_cons_succ]
  refine wpAnyH_take (i := 4) (oi := { dst := some 94, op := Op.move (Operand.tmp 10), type := _, pos := _, after := _, guard := some (3, true) }) (v := ?_) rfl (by kernel_rfl) (by kernel_rfl) (by kernel_rfl) (fun _ _ _ h => h) (Or.inl ⟨by rfl, ?_⟩) hH ?_
  rotate_left
  · (intro w hSw; (try dsimp only at hSw); go_simp; (try with_reducible rfl))
  try simp only [Act.put, List.setIfInBounds_toArray, List.set_cons_zero, List.set_cons_succ]
  refine wpAnyH_take (i := 5) (oi := { dst := some 95, op := Op.move (Operand.tmp 12), type := _, pos := _, after := _, guard := some (3, true) }) (v := ?_) rfl (by kernel_rfl) (by kernel_rfl) (by kernel_rfl) (fun _ _ _ h => h) (Or.inl ⟨by rfl, ?_⟩) hH ?_
  rotate_left
  · (intro w hSw; (try dsimp only at hSw); go_simp; (try with_reducible rfl))
  try simp only [Act.put, List.setIfInBounds_toArray, List.set_cons_zero, List.set_cons_succ]
  refine wpAnyH_take (i := 6) (oi := { dst := some 96, op := Op.binOp BinOp.eql 4 (Operand.tmp 94) (Operand.tmp 95) 4, type := _, pos := _, after := _, guard := some (3, true) }) (v := ?_) rfl (by kernel_rfl) (by kernel_rfl) (by kernel_rfl) (fun _ _ _ h => h) (Or.inl ⟨by rfl, ?_⟩) hH ?_
  rotate_left
  · (intro w hSw; (try dsimp only at hSw); go_simp; (try with_reducible rfl))
  try simp only [Act.put, List.setIfInBounds_toArray, List.set_cons_zero, List.set_cons_succ]
  refine wpAnyH_take (i := 7) (oi := { dst := some 97, op := Op.pick (Operand.tmp 93) (Operand.tmp 96) (Operand.const (Value.bool false)), type := _, pos := _, after := _, guard := none }) (v := ?_) rfl (by kernel_rfl) (by kernel_rfl) (by kernel_rfl) (fun _ _ _ h => h) (Or.inl ⟨by rfl, ?_⟩) hH ?_
  rotate_left
  · (intro w hSw; (try dsimp only at hSw); go_simp; (try with_reducible rfl))
  try simp only [Act.put, List.setIfInBounds_toArray, List.set_cons_zero, List.set_cons_succ]
  refine wpAnyH_take (i := 8) (oi := { dst := some 98, op := Op.move (Operand.tmp 97), type := _, pos := _, after := _, guard := none }) (v := ?_) rfl (by kernel_rfl) (by kernel_rfl) (by kernel_rfl) (fun _ _ _ h => h) (Or.inl ⟨by rfl, ?_⟩) hH ?_
  rotate_left
  · (intro w hSw; (try dsimp only at hSw); go_simp; (try with_reducible rfl))
  try simp only [Act.put, List.setIfInBounds_toArray, List.set_cons_zero, List.set_cons_succ]
  refine wpAnyH_take (i := 9) (oi := { dst := some 99, op := Op.load 26 (Operand.tmp 3), type := _, pos := _, after := _, guard := some (8, true) }) (v := ?_) rfl (by kernel_rfl) (by kernel_rfl) (by kernel_rfl) (fun _ _ _ h => h) (Or.inl ⟨by rfl, ?_⟩) hH ?_
  rotate_left
  · (intro w hSw; (try dsimp only at hSw); go_simp; (try with_reducible rfl))
  try simp only [Act.put, List.setIfInBounds_toArray, List.set_cons_zero, List.set_cons_succ]
  refine wpAnyH_take (i := 10) (oi := { dst := some 100, op := Op.load 26 (Operand.tmp 4), type := _, pos := _, after := _, guard := some (8, true) }) (v := ?_) rfl (by kernel_rfl) (by kernel_rfl) (by kernel_rfl) (fun _ _ _ h => h) (Or.inl ⟨by rfl, ?_⟩) hH ?_
  rotate_left
  · (intro w hSw; (try dsimp only at hSw); go_simp; (try with_reducible rfl))
  try simp only [Act.put, List.setIfInBounds_toArray, List.set_cons_zero, List.set_cons_succ]
  refine wpAnyH_take (i := 12) (oi := { dst := some 102, op := Op.load 26 (Operand.tmp 7), type := _, pos := _, after := _, guard := some (8, true) }) (v := ?_) rfl (by kernel_rfl) (by kernel_rfl) (by kernel_rfl) (fun _ _ _ h => h) (Or.inl ⟨by rfl, ?_⟩) hH ?_
  rotate_left
  · (intro w hSw; (try dsimp only at hSw); go_simp; (try with_reducible rfl))
  try simp only [Act.put, List.setIfInBounds_toArray, List.set_cons_zero, List.set_cons_succ]
  refine wpAnyH_take (i := 13) (oi := { dst := some 103, op := Op.load 26 (Operand.tmp 8), type := _, pos := _, after := _, guard := some (8, true) }) (v := ?_) rfl (by kernel_rfl) (by kernel_rfl) (by kernel_rfl) (fun _ _ _ h => h) (Or.inl ⟨by rfl, ?_⟩) hH ?_
  rotate_left
  · (intro w hSw; (try dsimp only at hSw); go_simp; (try with_reducible rfl))
  try simp only [Act.put, List.setIfInBounds_toArray, List.set_cons_zero, List.set_cons_succ]
  refine wpAnyH_ready (rs := [11]) (by kernel_rfl) (by simp) ?_
  refine AllReadyH.cons (o := { dst := some 101, op := Op.call { callee := Callee.value (Operand.func 13), args := #[Operand.tmp 99, Operand.tmp 100], argTypes := #[26, 26] }, type := _, pos := _, after := _, guard := some (8, true) }) rfl (fun K hK => ?_) AllReadyH.nil
  go_simp
  (with_reducible refine (C3.out _).mono ?_); rintro e v9_11 ⟨rfl, g⟩
  refine hK.out _ _ (by (try dsimp only); (go_split_ands; exact ⟨Kep.all g (by assumption), Kep.all g (by assumption), Kep.all g (by assumption), Kep.all g (by assumption), Kep.all g (by assumption), Kep.all g (by assumption), Kep.all g (by assumption), Kep.all g (by assumption), Kep.all g (by assumption), Kep.all g (by assumption), Kep.all g (by assumption), Kep.all g (by assumption), Kep.all g (by assumption), Kep.all g (by assumption), Kep.all g (by assumption), Kep.all g (by assumption), Kep.all g (by assumption), Kep.all g (by assumption), Kep.all g (by assumption), Kep.all g (by assumption), Kep.all g (by assumption), Kep.all g (by assumption), Kep.all g (by assumption), Kep.all g (by assumption), Kep.all g (by assumption), Kep.all g (by assumption), Kep.all g (by assumption), Kep.all g (by assumption), Kep.all g (by assumption), Kep.all g (by assumption), Kep.all g (by assumption), Kep.all g (by assumption), Kep.all g (by assumption), Kep.all g (by assumption), Kep.all g (by assumption), Kep.all g (by assumption), Kep.all g (by assumption), Kep.all g (by assumption), Kep.all g (by assumption), Kep.all g (by assumption), Kep.all g (by assumption), Kep.all g (by assumption), Kep.all g (by assumption), Kep.all g (by assumption), Kep.all g (by assumption), Kep.all g (by assumption), Kep.all g (by assumption), Kep.all g (by assumption), Kep.all g (by assumption), Kep.all g (by assumption), Kep.all g (by assumption), Kep.all g (by assumption), kep_next (by assumption) g⟩)) (fun hH2 => ?_)
  clear hK K hH; have hH := hH2; clear hH2
  try simp only [Act.put, List.setIfInBounds_toArray, List.set_cons_zero, List.set_cons_succ]
  refine wpAnyH_ready (rs := [14]) (by kernel_rfl) (by simp) ?_
  refine AllReadyH.cons (o := { dst := some 104, op := Op.call { callee := Callee.value (Operand.func 13), args := #[Operand.tmp 102, Operand.tmp 103], argTypes := #[26, 26] }, type := _, pos := _, after := _, guard := some (8, true) }) rfl (fun K hK => ?_) AllReadyH.nil
  go_simp
  (with_reducible refine (C4.out _).mono ?_); rintro e v9_14 ⟨rfl, g⟩
  refine hK.out _ _ (by (try dsimp only); (go_split_ands; exact ⟨Kep.all g (by assumption), Kep.all g (by assumption), Kep.all g (by assumption), Kep.all g (by assumption), Kep.all g (by assumption), Kep.all g (by assumption), Kep.all g (by assumption), Kep.all g (by assumption), Kep.all g (by assumption), Kep.all g (by assumption), Kep.all g (by assumption), Kep.all g (by assumption), Kep.all g (by assumption), Kep.all g (by assumption), Kep.all g (by assumption), Kep.all g (by assumption), Kep.all g (by assumption), Kep.all g (by assumption), Kep.all g (by assumption), Kep.all g (by assumption), Kep.all g (by assumption), Kep.all g (by assumption), Kep.all g (by assumption), Kep.all g (by assumption), Kep.all g (by assumption), Kep.all g (by assumption), Kep.all g (by assumption), Kep.all g (by assumption), Kep.all g (by assumption), Kep.all g (by assumption), Kep.all g (by assumption), Kep.all g (by assumption), Kep.all g (by assumption), Kep.all g (by assumption), Kep.all g (by assumption), Kep.all g (by assumption), Kep.all g (by assumption), Kep.all g (by assumption), Kep.all g (by assumption), Kep.all g (by assumption), Kep.all g (by assumption), Kep.all g (by assumption), Kep.all g (by assumption), Kep.all g (by assumption), Kep.all g (by assumption), Kep.all g (by assumption), Kep.all g (by assumption), Kep.all g (by assumption), Kep.all g (by assumption), Kep.all g (by assumption), Kep.all g (by assumption), Kep.all g (by assumption), kep_next (by assumption) g⟩)) (fun hH2 => ?_)
  clear hK K hH; have hH := hH2; clear hH2
  try simp only [Act.put, List.setIfInBounds_toArray, List.set_cons_zero, List.set_cons_succ]
  refine wpAnyH_take (i := 15) (oi := { dst := some 105, op := Op.binOp BinOp.eql 2 (Operand.tmp 101) (Operand.tmp 104) 2, type := _, pos := _, after := _, guard := some (8, true) }) (v := ?_) rfl (by kernel_rfl) (by kernel_rfl) (by kernel_rfl) (fun _ _ _ h => h) (Or.inl ⟨by rfl, ?_⟩) hH ?_
  rotate_left
  · (intro w hSw; (try dsimp only at hSw); go_simp; (try with_reducible rfl))
  try simp only [Act.put, List.setIfInBounds_toArray, List.set_cons_zero, List.set_cons_succ]
  refine wpAnyH_take (i := 16) (oi := { dst := some 106, op := Op.pick (Operand.tmp 98) (Operand.tmp 105) (Operand.const (Value.bool false)), type := _, pos := _, after := _, guard := none }) (v := ?_) rfl (by kernel_rfl) (by kernel_rfl) (by kernel_rfl) (fun _ _ _ h => h) (Or.inl ⟨by rfl, ?_⟩) hH ?_
  rotate_left
  · (intro w hSw; (try dsimp only at hSw); go_simp; (try with_reducible rfl))
  try simp only [Act.put, List.setIfInBounds_toArray, List.set_cons_zero, List.set_cons_succ]
  refine wpAnyH_take (i := 17) (oi := { dst := some 6, op := Op.assign (Operand.tmp 106), type := _, pos := _, after := _, guard := none }) (v := ?_) rfl (by kernel_rfl) (by kernel_rfl) (by kernel_rfl) (fun _ _ _ h => h) (Or.inl ⟨by rfl, ?_⟩) hH ?_
  rotate_left
  · (intro w hSw; (try dsimp only at hSw); go_simp; (try with_reducible rfl))
  try simp only [Act.put, List.setIfInBounds_toArray, List.set_cons_zero, List.set_cons_succ]
  refine wpAnyH_done (by kernel_rfl) ?_ _
  refine NoPanic.normal ?_
  clear x0 x1 x2 x3 x4 x5 x6 x7 x8 x9 y0 y1 y2 y3 y4 y5 y6 y7 y8 y9 d0 d1 xx0 xx1 xx2 xx3 xx4 xx5 xx6 xx7 xx8 xx9 yy0 yy1 yy2 yy3 yy4 yy5 yy6 yy7 yy8 yy9 c0 c1 c2 c3 c4 e0 e1 e2 e3 e4 gg
  obtain ⟨x0, x1, x2, x3, x4, x5, x6, x7, x8, x9, y0, y1, y2, y3, y4, y5, y6, y7, y8, y9, d0, d1, xx0, xx1, xx2, xx3, xx4, xx5, xx6, xx7, xx8, xx9, yy0, yy1, yy2, yy3, yy4, yy5, yy6, yy7, yy8, yy9, c0, c1, c2, c3, c4, e0, e1, e2, e3, e4, gg⟩ := hH
  go_wp2_with fail
  go_ret
  exact ⟨rfl, gg⟩
/-- The law ContactMoves. -/
theorem kvl_law (O : QOps) (AW : QAwake) (x y : Bd) (vx vy : Int) (w : World) : Calls Try.prog 6 #[.agg #[.int .u32 x.k, .int .i32 x.r, .int .i32 x.ax, .int .i32 x.ay, .int .i32 x.m, .int .i32 x.o, .int .i32 x.px, .int .i32 x.py, .int .i32 x.vx, .int .i32 x.vy], .agg #[.int .u32 y.k, .int .i32 y.r, .int .i32 y.ax, .int .i32 y.ay, .int .i32 y.m, .int .i32 y.o, .int .i32 y.px, .int .i32 y.py, .int .i32 y.vx, .int .i32 y.vy], .agg #[.int .i32 vx, .int .i32 vy]] w fun e w' => e = .returned (.bool true) ∧ Kep w.heap.size w w' := by
  cases hr : rgtB x y
  · exact kvl_bad (Lib.hid AW) x y vx vy hr w
  · have RR := Lib.hid (krr x y true hr)
    by_cases i1 : -1000000000 ≤ vx ∧ vx ≤ 1000000000
    · have I1 := Lib.hid (rin (n := vx) (l := 1000000000) (c := true) (by decide) (by decide) (decide_eq_true i1))
      by_cases i2 : -1000000000 ≤ vy ∧ vy ≤ 1000000000
      · have I2 := Lib.hid (rin (n := vy) (l := 1000000000) (c := true) (by decide) (by decide) (decide_eq_true i2))
        obtain ⟨hx, hy, hk⟩ := rgtB_iff.1 hr
        have l1 := okC_lim hx
        have l2 := okC_lim hy
        have he : ∀ a b : Int, (-1073741824 ≤ a ∧ a ≤ 1073741824) → (-1000000000 ≤ b ∧ b ≤ 1000000000) → IntKind.i32.wrap (a + b) = a + b := fun a b h1 h2 => by rw [IntKind.wrap_i32]; omega
        obtain ⟨x', hx'⟩ : ∃ z : Bd, z = ⟨x.k, x.r, x.ax, x.ay, 0, 0, x.px + vx, x.py + vy, 0, 0⟩ := ⟨_, rfl⟩
        obtain ⟨y', hy'⟩ : ∃ z : Bd, z = ⟨y.k, y.r, y.ax, y.ay, 0, 0, y.px + vx, y.py + vy, 0, 0⟩ := ⟨_, rfl⟩
        cases hr2 : rgtB x' y'
        · have R2 := krr x' y' false hr2
          subst hx' hy'
          exact kvl_far (Lib.hid AW) x y vx vy _ _ _ _ RR I1 I2 (he _ _ l1.2.2.1 i1) (he _ _ l1.2.2.2 i2) (he _ _ l2.2.2.1 i1) (he _ _ l2.2.2.2 i2) (Lib.hid R2) w
        · have R2 := krr x' y' true hr2
          obtain ⟨hx2, hy2, hk2⟩ := rgtB_iff.1 hr2
          have mx : x'.px = x.px + vx ∧ x'.py = x.py + vy ∧ x'.ax = x.ax ∧ x'.ay = x.ay := by rw [hx']; exact ⟨rfl, rfl, rfl, rfl⟩
          have my : y'.px = y.px + vx ∧ y'.py = y.py + vy ∧ y'.ax = y.ax ∧ y'.ay = y.ay := by rw [hy']; exact ⟨rfl, rfl, rfl, rfl⟩
          have kx : x'.k = x.k ∧ x'.r = x.r := by rw [hx']; exact ⟨rfl, rfl⟩
          have ky : y'.k = y.k ∧ y'.r = y.r := by rw [hy']; exact ⟨rfl, rfl⟩
          have hm : tchB (lowB x' y') (higB x' y') = tchB (lowB x y) (higB x y) ∧ conV (lowB x' y') (higB x' y') = conV (lowB x y) (higB x y) ∧ gapC (lowB x' y') (higB x' y') = gapC (lowB x y) (higB x y) := by
            unfold lowB higB
            rw [kx.1, ky.1]
            by_cases c : y.k < x.k
            · rw [if_pos c, if_pos c, if_pos c, if_pos c]; exact con_mv my mx ky.1 kx.1 ky.2 kx.2
            · rw [if_neg c, if_neg c, if_neg c, if_neg c]; exact con_mv mx my kx.1 ky.1 kx.2 ky.2
          have C1 := O.of_ hx hy hk
          have C2 := O.of_ hx2 hy2 hk2
          have C3 := O.gap hx hy hk
          have C4 := O.gap hx2 hy2 hk2
          rw [hm.1, hm.2.1] at C2
          rw [hm.2.2] at C4
          generalize conV (lowB x y) (higB x y) = v at *
          generalize tchB (lowB x y) (higB x y) = z at *
          generalize gapC (lowB x y) (higB x y) = g9 at *
          obtain ⟨v0, v1, v2, v3, v4⟩ := v
          clear hm mx my kx ky hx2 hy2 hk2 hr2
          subst hx' hy'
          exact kvl_main (Lib.hid AW) x y vx vy _ _ _ _ RR I1 I2 (he _ _ l1.2.2.1 i1) (he _ _ l1.2.2.2 i2) (he _ _ l2.2.2.1 i1) (he _ _ l2.2.2.2 i2) (Lib.hid R2) v0 v1 v2 v3 v4 g9 z (Lib.hid C1) (Lib.hid C2) (Lib.hid C3) (Lib.hid C4) w
      · exact kvl_o2 (Lib.hid AW) x y vx vy RR I1 (Lib.hid (rin (n := vy) (l := 1000000000) (c := false) (by decide) (by decide) (decide_eq_false i2))) w
    · exact kvl_o1 (Lib.hid AW) x y vx vy RR (Lib.hid (rin (n := vx) (l := 1000000000) (c := false) (by decide) (by decide) (decide_eq_false i1))) w
end Go.Proofs.Ytlcenopebgkjgaa
