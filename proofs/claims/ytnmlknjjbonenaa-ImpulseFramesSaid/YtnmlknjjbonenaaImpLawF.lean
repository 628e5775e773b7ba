/-
  Package impulse: the law ImpulseFrames.
-/
import Derived.Test.YtnmlknjjbonenaaImpCon
import Derived.Deep.DeepCutAuto
import Derived.Deep.QuietTactic
import Derived.BigQuiet
namespace Go.Proofs.Ytnmlknjjbonenaa
open Go.RowKit Go.Lib

set_option maxRecDepth 100000 in
set_option maxHeartbeats 2000000 in
theorem ifl_b1 (AW : Hid IAwake) (lo hi nx ny dp dx dy : Int) (x y : Bd) (RR : Hid (JRi lo hi nx ny dp x y false)) (w : World) : Calls Try.prog 6 #[.agg #[.int .u32 lo, .int .u32 hi, .int .i32 nx, .int .i32 ny, .int .i32 dp], .agg #[.int .u32 x.k, .int .i32 x.r, .int .i32 x.ax, .int .i32 x.ay, .int .i32 x.m, .int .i32 x.o, .int .i32 x.px, .int .i32 x.py, .int .i32 x.vx, .int .i32 x.vy], .agg #[.int .u32 y.k, .int .i32 y.r, .int .i32 y.ax, .int .i32 y.ay, .int .i32 y.m, .int .i32 y.o, .int .i32 y.px, .int .i32 y.py, .int .i32 y.vx, .int .i32 y.vy], .agg #[.int .i32 dx, .int .i32 dy]] w fun e w' => e = .returned (.bool true) ∧ Kep w.heap.size w w' := by
  go_enter Try.func6, Try.ntmps6
  go_wp2_with (first
    | ((with_reducible refine (AW.out _).mono ?_); rintro e w1 ⟨rfl, g1⟩
       first
         | (replace gg := kep_next gg g1)
         | (have c0 := Kep.all g1 (a := ⟨w.heap.size, 0, none⟩) (v := .int .u32 lo) (by (repeat (first | rw [World.cell?_drew] | rw [World.cell?_alloc_past _ _ _ (by first | (simp; done) | (simp; omega))])); rw [World.cell?_alloc_at _ _ _ _ (by simp)]; rfl)
            have c1 := Kep.all g1 (a := ⟨w.heap.size, 1, none⟩) (v := .int .u32 hi) (by (repeat (first | rw [World.cell?_drew] | rw [World.cell?_alloc_past _ _ _ (by first | (simp; done) | (simp; omega))])); rw [World.cell?_alloc_at _ _ _ _ (by simp)]; rfl)
            have c2 := Kep.all g1 (a := ⟨w.heap.size, 2, none⟩) (v := .int .i32 nx) (by (repeat (first | rw [World.cell?_drew] | rw [World.cell?_alloc_past _ _ _ (by first | (simp; done) | (simp; omega))])); rw [World.cell?_alloc_at _ _ _ _ (by simp)]; rfl)
            have c3 := Kep.all g1 (a := ⟨w.heap.size, 3, none⟩) (v := .int .i32 ny) (by (repeat (first | rw [World.cell?_drew] | rw [World.cell?_alloc_past _ _ _ (by first | (simp; done) | (simp; omega))])); rw [World.cell?_alloc_at _ _ _ _ (by simp)]; rfl)
            have c4 := Kep.all g1 (a := ⟨w.heap.size, 4, none⟩) (v := .int .i32 dp) (by (repeat (first | rw [World.cell?_drew] | rw [World.cell?_alloc_past _ _ _ (by first | (simp; done) | (simp; omega))])); rw [World.cell?_alloc_at _ _ _ _ (by simp)]; rfl)
            have x0 := Kep.all g1 (a := ⟨w.heap.size + 1, 0, none⟩) (v := .int .u32 x.k) (by (repeat (first | rw [World.cell?_drew] | rw [World.cell?_alloc_past _ _ _ (by first | (simp; done) | (simp; omega))])); rw [World.cell?_alloc_at _ _ _ _ (by simp)]; rfl)
            have x1 := Kep.all g1 (a := ⟨w.heap.size + 1, 1, none⟩) (v := .int .i32 x.r) (by (repeat (first | rw [World.cell?_drew] | rw [World.cell?_alloc_past _ _ _ (by first | (simp; done) | (simp; omega))])); rw [World.cell?_alloc_at _ _ _ _ (by simp)]; rfl)
            have x2 := Kep.all g1 (a := ⟨w.heap.size + 1, 2, none⟩) (v := .int .i32 x.ax) (by (repeat (first | rw [World.cell?_drew] | rw [World.cell?_alloc_past _ _ _ (by first | (simp; done) | (simp; omega))])); rw [World.cell?_alloc_at _ _ _ _ (by simp)]; rfl)
            have x3 := Kep.all g1 (a := ⟨w.heap.size + 1, 3, none⟩) (v := .int .i32 x.ay) (by (repeat (first | rw [World.cell?_drew] | rw [World.cell?_alloc_past _ _ _ (by first | (simp; done) | (simp; omega))])); rw [World.cell?_alloc_at _ _ _ _ (by simp)]; rfl)
            have x4 := Kep.all g1 (a := ⟨w.heap.size + 1, 4, none⟩) (v := .int .i32 x.m) (by (repeat (first | rw [World.cell?_drew] | rw [World.cell?_alloc_past _ _ _ (by first | (simp; done) | (simp; omega))])); rw [World.cell?_alloc_at _ _ _ _ (by simp)]; rfl)
            have x5 := Kep.all g1 (a := ⟨w.heap.size + 1, 5, none⟩) (v := .int .i32 x.o) (by (repeat (first | rw [World.cell?_drew] | rw [World.cell?_alloc_past _ _ _ (by first | (simp; done) | (simp; omega))])); rw [World.cell?_alloc_at _ _ _ _ (by simp)]; rfl)
            have x6 := Kep.all g1 (a := ⟨w.heap.size + 1, 6, none⟩) (v := .int .i32 x.px) (by (repeat (first | rw [World.cell?_drew] | rw [World.cell?_alloc_past _ _ _ (by first | (simp; done) | (simp; omega))])); rw [World.cell?_alloc_at _ _ _ _ (by simp)]; rfl)
            have x7 := Kep.all g1 (a := ⟨w.heap.size + 1, 7, none⟩) (v := .int .i32 x.py) (by (repeat (first | rw [World.cell?_drew] | rw [World.cell?_alloc_past _ _ _ (by first | (simp; done) | (simp; omega))])); rw [World.cell?_alloc_at _ _ _ _ (by simp)]; rfl)
            have x8 := Kep.all g1 (a := ⟨w.heap.size + 1, 8, none⟩) (v := .int .i32 x.vx) (by (repeat (first | rw [World.cell?_drew] | rw [World.cell?_alloc_past _ _ _ (by first | (simp; done) | (simp; omega))])); rw [World.cell?_alloc_at _ _ _ _ (by simp)]; rfl)
            have x9 := Kep.all g1 (a := ⟨w.heap.size + 1, 9, none⟩) (v := .int .i32 x.vy) (by (repeat (first | rw [World.cell?_drew] | rw [World.cell?_alloc_past _ _ _ (by first | (simp; done) | (simp; omega))])); rw [World.cell?_alloc_at _ _ _ _ (by simp)]; rfl)
            have y0 := Kep.all g1 (a := ⟨w.heap.size + 1 + 1, 0, none⟩) (v := .int .u32 y.k) (by (repeat (first | rw [World.cell?_drew] | rw [World.cell?_alloc_past _ _ _ (by first | (simp; done) | (simp; omega))])); rw [World.cell?_alloc_at _ _ _ _ (by simp)]; rfl)
            have y1 := Kep.all g1 (a := ⟨w.heap.size + 1 + 1, 1, none⟩) (v := .int .i32 y.r) (by (repeat (first | rw [World.cell?_drew] | rw [World.cell?_alloc_past _ _ _ (by first | (simp; done) | (simp; omega))])); rw [World.cell?_alloc_at _ _ _ _ (by simp)]; rfl)
            have y2 := Kep.all g1 (a := ⟨w.heap.size + 1 + 1, 2, none⟩) (v := .int .i32 y.ax) (by (repeat (first | rw [World.cell?_drew] | rw [World.cell?_alloc_past _ _ _ (by first | (simp; done) | (simp; omega))])); rw [World.cell?_alloc_at _ _ _ _ (by simp)]; rfl)
            have y3 := Kep.all g1 (a := ⟨w.heap.size + 1 + 1, 3, none⟩) (v := .int .i32 y.ay) (by (repeat (first | rw [World.cell?_drew] | rw [World.cell?_alloc_past _ _ _ (by first | (simp; done) | (simp; omega))])); rw [World.cell?_alloc_at _ _ _ _ (by simp)]; rfl)
            have y4 := Kep.all g1 (a := ⟨w.heap.size + 1 + 1, 4, none⟩) (v := .int .i32 y.m) (by (repeat (first | rw [World.cell?_drew] | rw [World.cell?_alloc_past _ _ _ (by first | (simp; done) | (simp; omega))])); rw [World.cell?_alloc_at _ _ _ _ (by simp)]; rfl)
            have y5 := Kep.all g1 (a := ⟨w.heap.size + 1 + 1, 5, none⟩) (v := .int .i32 y.o) (by (repeat (first | rw [World.cell?_drew] | rw [World.cell?_alloc_past _ _ _ (by first | (simp; done) | (simp; omega))])); rw [World.cell?_alloc_at _ _ _ _ (by simp)]; rfl)
            have y6 := Kep.all g1 (a := ⟨w.heap.size + 1 + 1, 6, none⟩) (v := .int .i32 y.px) (by (repeat (first | rw [World.cell?_drew] | rw [World.cell?_alloc_past _ _ _ (by first | (simp; done) | (simp; omega))])); rw [World.cell?_alloc_at _ _ _ _ (by simp)]; rfl)
            have y7 := Kep.all g1 (a := ⟨w.heap.size + 1 + 1, 7, none⟩) (v := .int .i32 y.py) (by (repeat (first | rw [World.cell?_drew] | rw [World.cell?_alloc_past _ _ _ (by first | (simp; done) | (simp; omega))])); rw [World.cell?_alloc_at _ _ _ _ (by simp)]; rfl)
            have y8 := Kep.all g1 (a := ⟨w.heap.size + 1 + 1, 8, none⟩) (v := .int .i32 y.vx) (by (repeat (first | rw [World.cell?_drew] | rw [World.cell?_alloc_past _ _ _ (by first | (simp; done) | (simp; omega))])); rw [World.cell?_alloc_at _ _ _ _ (by simp)]; rfl)
            have y9 := Kep.all g1 (a := ⟨w.heap.size + 1 + 1, 9, none⟩) (v := .int .i32 y.vy) (by (repeat (first | rw [World.cell?_drew] | rw [World.cell?_alloc_past _ _ _ (by first | (simp; done) | (simp; omega))])); rw [World.cell?_alloc_at _ _ _ _ (by simp)]; rfl)
            have d0 := Kep.all g1 (a := ⟨w.heap.size + 1 + 1 + 1, 0, none⟩) (v := .int .i32 dx) (by (repeat (first | rw [World.cell?_drew] | rw [World.cell?_alloc_past _ _ _ (by first | (simp; done) | (simp; omega))])); rw [World.cell?_alloc_at _ _ _ _ (by simp)]; rfl)
            have d1 := Kep.all g1 (a := ⟨w.heap.size + 1 + 1 + 1, 1, none⟩) (v := .int .i32 dy) (by (repeat (first | rw [World.cell?_drew] | rw [World.cell?_alloc_past _ _ _ (by first | (simp; done) | (simp; omega))])); rw [World.cell?_alloc_at _ _ _ _ (by simp)]; rfl)
            have gg := kep_next (kep_more (kep_more (kep_more (kep_more (Kep.refl _ _) _) _) _) _) g1
            have zc_w1 : w.heap.size < w1.heap.size := World.block_lt_of_cell? _ _ c0
            have zx_w1 : w.heap.size + 1 < w1.heap.size := World.block_lt_of_cell? _ _ x0
            have zy_w1 : w.heap.size + 1 + 1 < w1.heap.size := World.block_lt_of_cell? _ _ y0
            have zd_w1 : w.heap.size + 1 + 1 + 1 < w1.heap.size := World.block_lt_of_cell? _ _ d0))
    | ((with_reducible refine (RR.out _).mono ?_); rintro e w2 ⟨rfl, g2⟩
       replace c0 := Kep.all g2 (a := ⟨w.heap.size, 0, none⟩) (v := .int .u32 lo) c0
       replace c1 := Kep.all g2 (a := ⟨w.heap.size, 1, none⟩) (v := .int .u32 hi) c1
       replace c2 := Kep.all g2 (a := ⟨w.heap.size, 2, none⟩) (v := .int .i32 nx) c2
       replace c3 := Kep.all g2 (a := ⟨w.heap.size, 3, none⟩) (v := .int .i32 ny) c3
       replace c4 := Kep.all g2 (a := ⟨w.heap.size, 4, none⟩) (v := .int .i32 dp) c4
       replace x0 := Kep.all g2 (a := ⟨w.heap.size + 1, 0, none⟩) (v := .int .u32 x.k) x0
       replace x1 := Kep.all g2 (a := ⟨w.heap.size + 1, 1, none⟩) (v := .int .i32 x.r) x1
       replace x2 := Kep.all g2 (a := ⟨w.heap.size + 1, 2, none⟩) (v := .int .i32 x.ax) x2
       replace x3 := Kep.all g2 (a := ⟨w.heap.size + 1, 3, none⟩) (v := .int .i32 x.ay) x3
       replace x4 := Kep.all g2 (a := ⟨w.heap.size + 1, 4, none⟩) (v := .int .i32 x.m) x4
       replace x5 := Kep.all g2 (a := ⟨w.heap.size + 1, 5, none⟩) (v := .int .i32 x.o) x5
       replace x6 := Kep.all g2 (a := ⟨w.heap.size + 1, 6, none⟩) (v := .int .i32 x.px) x6
       replace x7 := Kep.all g2 (a := ⟨w.heap.size + 1, 7, none⟩) (v := .int .i32 x.py) x7
       replace x8 := Kep.all g2 (a := ⟨w.heap.size + 1, 8, none⟩) (v := .int .i32 x.vx) x8
       replace x9 := Kep.all g2 (a := ⟨w.heap.size + 1, 9, none⟩) (v := .int .i32 x.vy) x9
       replace y0 := Kep.all g2 (a := ⟨w.heap.size + 1 + 1, 0, none⟩) (v := .int .u32 y.k) y0
       replace y1 := Kep.all g2 (a := ⟨w.heap.size + 1 + 1, 1, none⟩) (v := .int .i32 y.r) y1
       replace y2 := Kep.all g2 (a := ⟨w.heap.size + 1 + 1, 2, none⟩) (v := .int .i32 y.ax) y2
       replace y3 := Kep.all g2 (a := ⟨w.heap.size + 1 + 1, 3, none⟩) (v := .int .i32 y.ay) y3
       replace y4 := Kep.all g2 (a := ⟨w.heap.size + 1 + 1, 4, none⟩) (v := .int .i32 y.m) y4
       replace y5 := Kep.all g2 (a := ⟨w.heap.size + 1 + 1, 5, none⟩) (v := .int .i32 y.o) y5
       replace y6 := Kep.all g2 (a := ⟨w.heap.size + 1 + 1, 6, none⟩) (v := .int .i32 y.px) y6
       replace y7 := Kep.all g2 (a := ⟨w.heap.size + 1 + 1, 7, none⟩) (v := .int .i32 y.py) y7
       replace y8 := Kep.all g2 (a := ⟨w.heap.size + 1 + 1, 8, none⟩) (v := .int .i32 y.vx) y8
       replace y9 := Kep.all g2 (a := ⟨w.heap.size + 1 + 1, 9, none⟩) (v := .int .i32 y.vy) y9
       replace d0 := Kep.all g2 (a := ⟨w.heap.size + 1 + 1 + 1, 0, none⟩) (v := .int .i32 dx) d0
       replace d1 := Kep.all g2 (a := ⟨w.heap.size + 1 + 1 + 1, 1, none⟩) (v := .int .i32 dy) d1
       replace gg := kep_next gg g2
       have zc_w2 : w.heap.size < w2.heap.size := World.block_lt_of_cell? _ _ c0
       have zx_w2 : w.heap.size + 1 < w2.heap.size := World.block_lt_of_cell? _ _ x0
       have zy_w2 : w.heap.size + 1 + 1 < w2.heap.size := World.block_lt_of_cell? _ _ y0
       have zd_w2 : w.heap.size + 1 + 1 + 1 < w2.heap.size := World.block_lt_of_cell? _ _ d0))
  go_ret
  exact ⟨rfl, gg⟩
set_option maxRecDepth 100000 in
set_option maxHeartbeats 2000000 in
theorem ifl_b2 (AW : Hid IAwake) (lo hi nx ny dp dx dy : Int) (x y : Bd) (RR : Hid (JRi lo hi nx ny dp x y true)) (I1 : Hid (∀ w, Calls Try.prog 18 #[.int .i32 dx, .int .i32 16777216] w fun e w' => e = .returned (.bool false) ∧ w = w')) (w : World) : Calls Try.prog 6 #[.agg #[.int .u32 lo, .int .u32 hi, .int .i32 nx, .int .i32 ny, .int .i32 dp], .agg #[.int .u32 x.k, .int .i32 x.r, .int .i32 x.ax, .int .i32 x.ay, .int .i32 x.m, .int .i32 x.o, .int .i32 x.px, .int .i32 x.py, .int .i32 x.vx, .int .i32 x.vy], .agg #[.int .u32 y.k, .int .i32 y.r, .int .i32 y.ax, .int .i32 y.ay, .int .i32 y.m, .int .i32 y.o, .int .i32 y.px, .int .i32 y.py, .int .i32 y.vx, .int .i32 y.vy], .agg #[.int .i32 dx, .int .i32 dy]] w fun e w' => e = .returned (.bool true) ∧ Kep w.heap.size w w' := by
  go_enter Try.func6, Try.ntmps6
  go_wp2_with (first
    | ((with_reducible refine (AW.out _).mono ?_); rintro e w1 ⟨rfl, g1⟩
       first
         | (replace gg := kep_next gg g1)
         | (have c0 := Kep.all g1 (a := ⟨w.heap.size, 0, none⟩) (v := .int .u32 lo) (by (repeat (first | rw [World.cell?_drew] | rw [World.cell?_alloc_past _ _ _ (by first | (simp; done) | (simp; omega))])); rw [World.cell?_alloc_at _ _ _ _ (by simp)]; rfl)
            have c1 := Kep.all g1 (a := ⟨w.heap.size, 1, none⟩) (v := .int .u32 hi) (by (repeat (first | rw [World.cell?_drew] | rw [World.cell?_alloc_past _ _ _ (by first | (simp; done) | (simp; omega))])); rw [World.cell?_alloc_at _ _ _ _ (by simp)]; rfl)
            have c2 := Kep.all g1 (a := ⟨w.heap.size, 2, none⟩) (v := .int .i32 nx) (by (repeat (first | rw [World.cell?_drew] | rw [World.cell?_alloc_past _ _ _ (by first | (simp; done) | (simp; omega))])); rw [World.cell?_alloc_at _ _ _ _ (by simp)]; rfl)
            have c3 := Kep.all g1 (a := ⟨w.heap.size, 3, none⟩) (v := .int .i32 ny) (by (repeat (first | rw [World.cell?_drew] | rw [World.cell?_alloc_past _ _ _ (by first | (simp; done) | (simp; omega))])); rw [World.cell?_alloc_at _ _ _ _ (by simp)]; rfl)
            have c4 := Kep.all g1 (a := ⟨w.heap.size, 4, none⟩) (v := .int .i32 dp) (by (repeat (first | rw [World.cell?_drew] | rw [World.cell?_alloc_past _ _ _ (by first | (simp; done) | (simp; omega))])); rw [World.cell?_alloc_at _ _ _ _ (by simp)]; rfl)
            have x0 := Kep.all g1 (a := ⟨w.heap.size + 1, 0, none⟩) (v := .int .u32 x.k) (by (repeat (first | rw [World.cell?_drew] | rw [World.cell?_alloc_past _ _ _ (by first | (simp; done) | (simp; omega))])); rw [World.cell?_alloc_at _ _ _ _ (by simp)]; rfl)
            have x1 := Kep.all g1 (a := ⟨w.heap.size + 1, 1, none⟩) (v := .int .i32 x.r) (by (repeat (first | rw [World.cell?_drew] | rw [World.cell?_alloc_past _ _ _ (by first | (simp; done) | (simp; omega))])); rw [World.cell?_alloc_at _ _ _ _ (by simp)]; rfl)
            have x2 := Kep.all g1 (a := ⟨w.heap.size + 1, 2, none⟩) (v := .int .i32 x.ax) (by (repeat (first | rw [World.cell?_drew] | rw [World.cell?_alloc_past _ _ _ (by first | (simp; done) | (simp; omega))])); rw [World.cell?_alloc_at _ _ _ _ (by simp)]; rfl)
            have x3 := Kep.all g1 (a := ⟨w.heap.size + 1, 3, none⟩) (v := .int .i32 x.ay) (by (repeat (first | rw [World.cell?_drew] | rw [World.cell?_alloc_past _ _ _ (by first | (simp; done) | (simp; omega))])); rw [World.cell?_alloc_at _ _ _ _ (by simp)]; rfl)
            have x4 := Kep.all g1 (a := ⟨w.heap.size + 1, 4, none⟩) (v := .int .i32 x.m) (by (repeat (first | rw [World.cell?_drew] | rw [World.cell?_alloc_past _ _ _ (by first | (simp; done) | (simp; omega))])); rw [World.cell?_alloc_at _ _ _ _ (by simp)]; rfl)
            have x5 := Kep.all g1 (a := ⟨w.heap.size + 1, 5, none⟩) (v := .int .i32 x.o) (by (repeat (first | rw [World.cell?_drew] | rw [World.cell?_alloc_past _ _ _ (by first | (simp; done) | (simp; omega))])); rw [World.cell?_alloc_at _ _ _ _ (by simp)]; rfl)
            have x6 := Kep.all g1 (a := ⟨w.heap.size + 1, 6, none⟩) (v := .int .i32 x.px) (by (repeat (first | rw [World.cell?_drew] | rw [World.cell?_alloc_past _ _ _ (by first | (simp; done) | (simp; omega))])); rw [World.cell?_alloc_at _ _ _ _ (by simp)]; rfl)
            have x7 := Kep.all g1 (a := ⟨w.heap.size + 1, 7, none⟩) (v := .int .i32 x.py) (by (repeat (first | rw [World.cell?_drew] | rw [World.cell?_alloc_past _ _ _ (by first | (simp; done) | (simp; omega))])); rw [World.cell?_alloc_at _ _ _ _ (by simp)]; rfl)
            have x8 := Kep.all g1 (a := ⟨w.heap.size + 1, 8, none⟩) (v := .int .i32 x.vx) (by (repeat (first | rw [World.cell?_drew] | rw [World.cell?_alloc_past _ _ _ (by first | (simp; done) | (simp; omega))])); rw [World.cell?_alloc_at _ _ _ _ (by simp)]; rfl)
            have x9 := Kep.all g1 (a := ⟨w.heap.size + 1, 9, none⟩) (v := .int .i32 x.vy) (by (repeat (first | rw [World.cell?_drew] | rw [World.cell?_alloc_past _ _ _ (by first | (simp; done) | (simp; omega))])); rw [World.cell?_alloc_at _ _ _ _ (by simp)]; rfl)
            have y0 := Kep.all g1 (a := ⟨w.heap.size + 1 + 1, 0, none⟩) (v := .int .u32 y.k) (by (repeat (first | rw [World.cell?_drew] | rw [World.cell?_alloc_past _ _ _ (by first | (simp; done) | (simp; omega))])); rw [World.cell?_alloc_at _ _ _ _ (by simp)]; rfl)
            have y1 := Kep.all g1 (a := ⟨w.heap.size + 1 + 1, 1, none⟩) (v := .int .i32 y.r) (by (repeat (first | rw [World.cell?_drew] | rw [World.cell?_alloc_past _ _ _ (by first | (simp; done) | (simp; omega))])); rw [World.cell?_alloc_at _ _ _ _ (by simp)]; rfl)
            have y2 := Kep.all g1 (a := ⟨w.heap.size + 1 + 1, 2, none⟩) (v := .int .i32 y.ax) (by (repeat (first | rw [World.cell?_drew] | rw [World.cell?_alloc_past _ _ _ (by first | (simp; done) | (simp; omega))])); rw [World.cell?_alloc_at _ _ _ _ (by simp)]; rfl)
            have y3 := Kep.all g1 (a := ⟨w.heap.size + 1 + 1, 3, none⟩) (v := .int .i32 y.ay) (by (repeat (first | rw [World.cell?_drew] | rw [World.cell?_alloc_past _ _ _ (by first | (simp; done) | (simp; omega))])); rw [World.cell?_alloc_at _ _ _ _ (by simp)]; rfl)
            have y4 := Kep.all g1 (a := ⟨w.heap.size + 1 + 1, 4, none⟩) (v := .int .i32 y.m) (by (repeat (first | rw [World.cell?_drew] | rw [World.cell?_alloc_past _ _ _ (by first | (simp; done) | (simp; omega))])); rw [World.cell?_alloc_at _ _ _ _ (by simp)]; rfl)
            have y5 := Kep.all g1 (a := ⟨w.heap.size + 1 + 1, 5, none⟩) (v := .int .i32 y.o) (by (repeat (first | rw [World.cell?_drew] | rw [World.cell?_alloc_past _ _ _ (by first | (simp; done) | (simp; omega))])); rw [World.cell?_alloc_at _ _ _ _ (by simp)]; rfl)
            have y6 := Kep.all g1 (a := ⟨w.heap.size + 1 + 1, 6, none⟩) (v := .int .i32 y.px) (by (repeat (first | rw [World.cell?_drew] | rw [World.cell?_alloc_past _ _ _ (by first | (simp; done) | (simp; omega))])); rw [World.cell?_alloc_at _ _ _ _ (by simp)]; rfl)
            have y7 := Kep.all g1 (a := ⟨w.heap.size + 1 + 1, 7, none⟩) (v := .int .i32 y.py) (by (repeat (first | rw [World.cell?_drew] | rw [World.cell?_alloc_past _ _ _ (by first | (simp; done) | (simp; omega))])); rw [World.cell?_alloc_at _ _ _ _ (by simp)]; rfl)
            have y8 := Kep.all g1 (a := ⟨w.heap.size + 1 + 1, 8, none⟩) (v := .int .i32 y.vx) (by (repeat (first | rw [World.cell?_drew] | rw [World.cell?_alloc_past _ _ _ (by first | (simp; done) | (simp; omega))])); rw [World.cell?_alloc_at _ _ _ _ (by simp)]; rfl)
            have y9 := Kep.all g1 (a := ⟨w.heap.size + 1 + 1, 9, none⟩) (v := .int .i32 y.vy) (by (repeat (first | rw [World.cell?_drew] | rw [World.cell?_alloc_past _ _ _ (by first | (simp; done) | (simp; omega))])); rw [World.cell?_alloc_at _ _ _ _ (by simp)]; rfl)
            have d0 := Kep.all g1 (a := ⟨w.heap.size + 1 + 1 + 1, 0, none⟩) (v := .int .i32 dx) (by (repeat (first | rw [World.cell?_drew] | rw [World.cell?_alloc_past _ _ _ (by first | (simp; done) | (simp; omega))])); rw [World.cell?_alloc_at _ _ _ _ (by simp)]; rfl)
            have d1 := Kep.all g1 (a := ⟨w.heap.size + 1 + 1 + 1, 1, none⟩) (v := .int .i32 dy) (by (repeat (first | rw [World.cell?_drew] | rw [World.cell?_alloc_past _ _ _ (by first | (simp; done) | (simp; omega))])); rw [World.cell?_alloc_at _ _ _ _ (by simp)]; rfl)
            have gg := kep_next (kep_more (kep_more (kep_more (kep_more (Kep.refl _ _) _) _) _) _) g1
            have zc_w1 : w.heap.size < w1.heap.size := World.block_lt_of_cell? _ _ c0
            have zx_w1 : w.heap.size + 1 < w1.heap.size := World.block_lt_of_cell? _ _ x0
            have zy_w1 : w.heap.size + 1 + 1 < w1.heap.size := World.block_lt_of_cell? _ _ y0
            have zd_w1 : w.heap.size + 1 + 1 + 1 < w1.heap.size := World.block_lt_of_cell? _ _ d0))
    | ((with_reducible refine (RR.out _).mono ?_); rintro e w2 ⟨rfl, g2⟩
       replace c0 := Kep.all g2 (a := ⟨w.heap.size, 0, none⟩) (v := .int .u32 lo) c0
       replace c1 := Kep.all g2 (a := ⟨w.heap.size, 1, none⟩) (v := .int .u32 hi) c1
       replace c2 := Kep.all g2 (a := ⟨w.heap.size, 2, none⟩) (v := .int .i32 nx) c2
       replace c3 := Kep.all g2 (a := ⟨w.heap.size, 3, none⟩) (v := .int .i32 ny) c3
       replace c4 := Kep.all g2 (a := ⟨w.heap.size, 4, none⟩) (v := .int .i32 dp) c4
       replace x0 := Kep.all g2 (a := ⟨w.heap.size + 1, 0, none⟩) (v := .int .u32 x.k) x0
       replace x1 := Kep.all g2 (a := ⟨w.heap.size + 1, 1, none⟩) (v := .int .i32 x.r) x1
       replace x2 := Kep.all g2 (a := ⟨w.heap.size + 1, 2, none⟩) (v := .int .i32 x.ax) x2
       replace x3 := Kep.all g2 (a := ⟨w.heap.size + 1, 3, none⟩) (v := .int .i32 x.ay) x3
       replace x4 := Kep.all g2 (a := ⟨w.heap.size + 1, 4, none⟩) (v := .int .i32 x.m) x4
       replace x5 := Kep.all g2 (a := ⟨w.heap.size + 1, 5, none⟩) (v := .int .i32 x.o) x5
       replace x6 := Kep.all g2 (a := ⟨w.heap.size + 1, 6, none⟩) (v := .int .i32 x.px) x6
       replace x7 := Kep.all g2 (a := ⟨w.heap.size + 1, 7, none⟩) (v := .int .i32 x.py) x7
       replace x8 := Kep.all g2 (a := ⟨w.heap.size + 1, 8, none⟩) (v := .int .i32 x.vx) x8
       replace x9 := Kep.all g2 (a := ⟨w.heap.size + 1, 9, none⟩) (v := .int .i32 x.vy) x9
       replace y0 := Kep.all g2 (a := ⟨w.heap.size + 1 + 1, 0, none⟩) (v := .int .u32 y.k) y0
       replace y1 := Kep.all g2 (a := ⟨w.heap.size + 1 + 1, 1, none⟩) (v := .int .i32 y.r) y1
       replace y2 := Kep.all g2 (a := ⟨w.heap.size + 1 + 1, 2, none⟩) (v := .int .i32 y.ax) y2
       replace y3 := Kep.all g2 (a := ⟨w.heap.size + 1 + 1, 3, none⟩) (v := .int .i32 y.ay) y3
       replace y4 := Kep.all g2 (a := ⟨w.heap.size + 1 + 1, 4, none⟩) (v := .int .i32 y.m) y4
       replace y5 := Kep.all g2 (a := ⟨w.heap.size + 1 + 1, 5, none⟩) (v := .int .i32 y.o) y5
       replace y6 := Kep.all g2 (a := ⟨w.heap.size + 1 + 1, 6, none⟩) (v := .int .i32 y.px) y6
       replace y7 := Kep.all g2 (a := ⟨w.heap.size + 1 + 1, 7, none⟩) (v := .int .i32 y.py) y7
       replace y8 := Kep.all g2 (a := ⟨w.heap.size + 1 + 1, 8, none⟩) (v := .int .i32 y.vx) y8
       replace y9 := Kep.all g2 (a := ⟨w.heap.size + 1 + 1, 9, none⟩) (v := .int .i32 y.vy) y9
       replace d0 := Kep.all g2 (a := ⟨w.heap.size + 1 + 1 + 1, 0, none⟩) (v := .int .i32 dx) d0
       replace d1 := Kep.all g2 (a := ⟨w.heap.size + 1 + 1 + 1, 1, none⟩) (v := .int .i32 dy) d1
       replace gg := kep_next gg g2
       have zc_w2 : w.heap.size < w2.heap.size := World.block_lt_of_cell? _ _ c0
       have zx_w2 : w.heap.size + 1 < w2.heap.size := World.block_lt_of_cell? _ _ x0
       have zy_w2 : w.heap.size + 1 + 1 < w2.heap.size := World.block_lt_of_cell? _ _ y0
       have zd_w2 : w.heap.size + 1 + 1 + 1 < w2.heap.size := World.block_lt_of_cell? _ _ d0)
    | ((with_reducible refine (I1.out _).mono ?_); rintro e w' ⟨rfl, rfl⟩))
  go_ret
  exact ⟨rfl, gg⟩
set_option maxRecDepth 100000 in
set_option maxHeartbeats 2000000 in
theorem ifl_b3 (AW : Hid IAwake) (lo hi nx ny dp dx dy : Int) (x y : Bd) (RR : Hid (JRi lo hi nx ny dp x y true)) (I1 : Hid (∀ w, Calls Try.prog 18 #[.int .i32 dx, .int .i32 16777216] w fun e w' => e = .returned (.bool true) ∧ w = w')) (I2 : Hid (∀ w, Calls Try.prog 18 #[.int .i32 dy, .int .i32 16777216] w fun e w' => e = .returned (.bool false) ∧ w = w')) (w : World) : Calls Try.prog 6 #[.agg #[.int .u32 lo, .int .u32 hi, .int .i32 nx, .int .i32 ny, .int .i32 dp], .agg #[.int .u32 x.k, .int .i32 x.r, .int .i32 x.ax, .int .i32 x.ay, .int .i32 x.m, .int .i32 x.o, .int .i32 x.px, .int .i32 x.py, .int .i32 x.vx, .int .i32 x.vy], .agg #[.int .u32 y.k, .int .i32 y.r, .int .i32 y.ax, .int .i32 y.ay, .int .i32 y.m, .int .i32 y.o, .int .i32 y.px, .int .i32 y.py, .int .i32 y.vx, .int .i32 y.vy], .agg #[.int .i32 dx, .int .i32 dy]] w fun e w' => e = .returned (.bool true) ∧ Kep w.heap.size w w' := by
  go_enter Try.func6, Try.ntmps6
  go_wp2_with (first
    | ((with_reducible refine (AW.out _).mono ?_); rintro e w1 ⟨rfl, g1⟩
       first
         | (replace gg := kep_next gg g1)
         | (have c0 := Kep.all g1 (a := ⟨w.heap.size, 0, none⟩) (v := .int .u32 lo) (by (repeat (first | rw [World.cell?_drew] | rw [World.cell?_alloc_past _ _ _ (by first | (simp; done) | (simp; omega))])); rw [World.cell?_alloc_at _ _ _ _ (by simp)]; rfl)
            have c1 := Kep.all g1 (a := ⟨w.heap.size, 1, none⟩) (v := .int .u32 hi) (by (repeat (first | rw [World.cell?_drew] | rw [World.cell?_alloc_past _ _ _ (by first | (simp; done) | (simp; omega))])); rw [World.cell?_alloc_at _ _ _ _ (by simp)]; rfl)
            have c2 := Kep.all g1 (a := ⟨w.heap.size, 2, none⟩) (v := .int .i32 nx) (by (repeat (first | rw [World.cell?_drew] | rw [World.cell?_alloc_past _ _ _ (by first | (simp; done) | (simp; omega))])); rw [World.cell?_alloc_at _ _ _ _ (by simp)]; rfl)
            have c3 := Kep.all g1 (a := ⟨w.heap.size, 3, none⟩) (v := .int .i32 ny) (by (repeat (first | rw [World.cell?_drew] | rw [World.cell?_alloc_past _ _ _ (by first | (simp; done) | (simp; omega))])); rw [World.cell?_alloc_at _ _ _ _ (by simp)]; rfl)
            have c4 := Kep.all g1 (a := ⟨w.heap.size, 4, none⟩) (v := .int .i32 dp) (by (repeat (first | rw [World.cell?_drew] | rw [World.cell?_alloc_past _ _ _ (by first | (simp; done) | (simp; omega))])); rw [World.cell?_alloc_at _ _ _ _ (by simp)]; rfl)
            have x0 := Kep.all g1 (a := ⟨w.heap.size + 1, 0, none⟩) (v := .int .u32 x.k) (by (repeat (first | rw [World.cell?_drew] | rw [World.cell?_alloc_past _ _ _ (by first | (simp; done) | (simp; omega))])); rw [World.cell?_alloc_at _ _ _ _ (by simp)]; rfl)
            have x1 := Kep.all g1 (a := ⟨w.heap.size + 1, 1, none⟩) (v := .int .i32 x.r) (by (repeat (first | rw [World.cell?_drew] | rw [World.cell?_alloc_past _ _ _ (by first | (simp; done) | (simp; omega))])); rw [World.cell?_alloc_at _ _ _ _ (by simp)]; rfl)
            have x2 := Kep.all g1 (a := ⟨w.heap.size + 1, 2, none⟩) (v := .int .i32 x.ax) (by (repeat (first | rw [World.cell?_drew] | rw [World.cell?_alloc_past _ _ _ (by first | (simp; done) | (simp; omega))])); rw [World.cell?_alloc_at _ _ _ _ (by simp)]; rfl)
            have x3 := Kep.all g1 (a := ⟨w.heap.size + 1, 3, none⟩) (v := .int .i32 x.ay) (by (repeat (first | rw [World.cell?_drew] | rw [World.cell?_alloc_past _ _ _ (by first | (simp; done) | (simp; omega))])); rw [World.cell?_alloc_at _ _ _ _ (by simp)]; rfl)
            have x4 := Kep.all g1 (a := ⟨w.heap.size + 1, 4, none⟩) (v := .int .i32 x.m) (by (repeat (first | rw [World.cell?_drew] | rw [World.cell?_alloc_past _ _ _ (by first | (simp; done) | (simp; omega))])); rw [World.cell?_alloc_at _ _ _ _ (by simp)]; rfl)
            have x5 := Kep.all g1 (a := ⟨w.heap.size + 1, 5, none⟩) (v := .int .i32 x.o) (by (repeat (first | rw [World.cell?_drew] | rw [World.cell?_alloc_past _ _ _ (by first | (simp; done) | (simp; omega))])); rw [World.cell?_alloc_at _ _ _ _ (by simp)]; rfl)
            have x6 := Kep.all g1 (a := ⟨w.heap.size + 1, 6, none⟩) (v := .int .i32 x.px) (by (repeat (first | rw [World.cell?_drew] | rw [World.cell?_alloc_past _ _ _ (by first | (simp; done) | (simp; omega))])); rw [World.cell?_alloc_at _ _ _ _ (by simp)]; rfl)
            have x7 := Kep.all g1 (a := ⟨w.heap.size + 1, 7, none⟩) (v := .int .i32 x.py) (by (repeat (first | rw [World.cell?_drew] | rw [World.cell?_alloc_past _ _ _ (by first | (simp; done) | (simp; omega))])); rw [World.cell?_alloc_at _ _ _ _ (by simp)]; rfl)
            have x8 := Kep.all g1 (a := ⟨w.heap.size + 1, 8, none⟩) (v := .int .i32 x.vx) (by (repeat (first | rw [World.cell?_drew] | rw [World.cell?_alloc_past _ _ _ (by first | (simp; done) | (simp; omega))])); rw [World.cell?_alloc_at _ _ _ _ (by simp)]; rfl)
            have x9 := Kep.all g1 (a := ⟨w.heap.size + 1, 9, none⟩) (v := .int .i32 x.vy) (by (repeat (first | rw [World.cell?_drew] | rw [World.cell?_alloc_past _ _ _ (by first | (simp; done) | (simp; omega))])); rw [World.cell?_alloc_at _ _ _ _ (by simp)]; rfl)
            have y0 := Kep.all g1 (a := ⟨w.heap.size + 1 + 1, 0, none⟩) (v := .int .u32 y.k) (by (repeat (first | rw [World.cell?_drew] | rw [World.cell?_alloc_past _ _ _ (by first | (simp; done) | (simp; omega))])); rw [World.cell?_alloc_at _ _ _ _ (by simp)]; rfl)
            have y1 := Kep.all g1 (a := ⟨w.heap.size + 1 + 1, 1, none⟩) (v := .int .i32 y.r) (by (repeat (first | rw [World.cell?_drew] | rw [World.cell?_alloc_past _ _ _ (by first | (simp; done) | (simp; omega))])); rw [World.cell?_alloc_at _ _ _ _ (by simp)]; rfl)
            have y2 := Kep.all g1 (a := ⟨w.heap.size + 1 + 1, 2, none⟩) (v := .int .i32 y.ax) (by (repeat (first | rw [World.cell?_drew] | rw [World.cell?_alloc_past _ _ _ (by first | (simp; done) | (simp; omega))])); rw [World.cell?_alloc_at _ _ _ _ (by simp)]; rfl)
            have y3 := Kep.all g1 (a := ⟨w.heap.size + 1 + 1, 3, none⟩) (v := .int .i32 y.ay) (by (repeat (first | rw [World.cell?_drew] | rw [World.cell?_alloc_past _ _ _ (by first | (simp; done) | (simp; omega))])); rw [World.cell?_alloc_at _ _ _ _ (by simp)]; rfl)
            have y4 := Kep.all g1 (a := ⟨w.heap.size + 1 + 1, 4, none⟩) (v := .int .i32 y.m) (by (repeat (first | rw [World.cell?_drew] | rw [World.cell?_alloc_past _ _ _ (by first | (simp; done) | (simp; omega))])); rw [World.cell?_alloc_at _ _ _ _ (by simp)]; rfl)
            have y5 := Kep.all g1 (a := ⟨w.heap.size + 1 + 1, 5, none⟩) (v := .int .i32 y.o) (by (repeat (first | rw [World.cell?_drew] | rw [World.cell?_alloc_past _ _ _ (by first | (simp; done) | (simp; omega))])); rw [World.cell?_alloc_at _ _ _ _ (by simp)]; rfl)
            have y6 := Kep.all g1 (a := ⟨w.heap.size + 1 + 1, 6, none⟩) (v := .int .i32 y.px) (by (repeat (first | rw [World.cell?_drew] | rw [World.cell?_alloc_past _ _ _ (by first | (simp; done) | (simp; omega))])); rw [World.cell?_alloc_at _ _ _ _ (by simp)]; rfl)
            have y7 := Kep.all g1 (a := ⟨w.heap.size + 1 + 1, 7, none⟩) (v := .int .i32 y.py) (by (repeat (first | rw [World.cell?_drew] | rw [World.cell?_alloc_past _ _ _ (by first | (simp; done) | (simp; omega))])); rw [World.cell?_alloc_at _ _ _ _ (by simp)]; rfl)
            have y8 := Kep.all g1 (a := ⟨w.heap.size + 1 + 1, 8, none⟩) (v := .int .i32 y.vx) (by (repeat (first | rw [World.cell?_drew] | rw [World.cell?_alloc_past _ _ _ (by first | (simp; done) | (simp; omega))])); rw [World.cell?_alloc_at _ _ _ _ (by simp)]; rfl)
            have y9 := Kep.all g1 (a := ⟨w.heap.size + 1 + 1, 9, none⟩) (v := .int .i32 y.vy) (by (repeat (first | rw [World.cell?_drew] | rw [World.cell?_alloc_past _ _ _ (by first | (simp; done) | (simp; omega))])); rw [World.cell?_alloc_at _ _ _ _ (by simp)]; rfl)
            have d0 := Kep.all g1 (a := ⟨w.heap.size + 1 + 1 + 1, 0, none⟩) (v := .int .i32 dx) (by (repeat (first | rw [World.cell?_drew] | rw [World.cell?_alloc_past _ _ _ (by first | (simp; done) | (simp; omega))])); rw [World.cell?_alloc_at _ _ _ _ (by simp)]; rfl)
            have d1 := Kep.all g1 (a := ⟨w.heap.size + 1 + 1 + 1, 1, none⟩) (v := .int .i32 dy) (by (repeat (first | rw [World.cell?_drew] | rw [World.cell?_alloc_past _ _ _ (by first | (simp; done) | (simp; omega))])); rw [World.cell?_alloc_at _ _ _ _ (by simp)]; rfl)
            have gg := kep_next (kep_more (kep_more (kep_more (kep_more (Kep.refl _ _) _) _) _) _) g1
            have zc_w1 : w.heap.size < w1.heap.size := World.block_lt_of_cell? _ _ c0
            have zx_w1 : w.heap.size + 1 < w1.heap.size := World.block_lt_of_cell? _ _ x0
            have zy_w1 : w.heap.size + 1 + 1 < w1.heap.size := World.block_lt_of_cell? _ _ y0
            have zd_w1 : w.heap.size + 1 + 1 + 1 < w1.heap.size := World.block_lt_of_cell? _ _ d0))
    | ((with_reducible refine (RR.out _).mono ?_); rintro e w2 ⟨rfl, g2⟩
       replace c0 := Kep.all g2 (a := ⟨w.heap.size, 0, none⟩) (v := .int .u32 lo) c0
       replace c1 := Kep.all g2 (a := ⟨w.heap.size, 1, none⟩) (v := .int .u32 hi) c1
       replace c2 := Kep.all g2 (a := ⟨w.heap.size, 2, none⟩) (v := .int .i32 nx) c2
       replace c3 := Kep.all g2 (a := ⟨w.heap.size, 3, none⟩) (v := .int .i32 ny) c3
       replace c4 := Kep.all g2 (a := ⟨w.heap.size, 4, none⟩) (v := .int .i32 dp) c4
       replace x0 := Kep.all g2 (a := ⟨w.heap.size + 1, 0, none⟩) (v := .int .u32 x.k) x0
       replace x1 := Kep.all g2 (a := ⟨w.heap.size + 1, 1, none⟩) (v := .int .i32 x.r) x1
       replace x2 := Kep.all g2 (a := ⟨w.heap.size + 1, 2, none⟩) (v := .int .i32 x.ax) x2
       replace x3 := Kep.all g2 (a := ⟨w.heap.size + 1, 3, none⟩) (v := .int .i32 x.ay) x3
       replace x4 := Kep.all g2 (a := ⟨w.heap.size + 1, 4, none⟩) (v := .int .i32 x.m) x4
       replace x5 := Kep.all g2 (a := ⟨w.heap.size + 1, 5, none⟩) (v := .int .i32 x.o) x5
       replace x6 := Kep.all g2 (a := ⟨w.heap.size + 1, 6, none⟩) (v := .int .i32 x.px) x6
       replace x7 := Kep.all g2 (a := ⟨w.heap.size + 1, 7, none⟩) (v := .int .i32 x.py) x7
       replace x8 := Kep.all g2 (a := ⟨w.heap.size + 1, 8, none⟩) (v := .int .i32 x.vx) x8
       replace x9 := Kep.all g2 (a := ⟨w.heap.size + 1, 9, none⟩) (v := .int .i32 x.vy) x9
       replace y0 := Kep.all g2 (a := ⟨w.heap.size + 1 + 1, 0, none⟩) (v := .int .u32 y.k) y0
       replace y1 := Kep.all g2 (a := ⟨w.heap.size + 1 + 1, 1, none⟩) (v := .int .i32 y.r) y1
       replace y2 := Kep.all g2 (a := ⟨w.heap.size + 1 + 1, 2, none⟩) (v := .int .i32 y.ax) y2
       replace y3 := Kep.all g2 (a := ⟨w.heap.size + 1 + 1, 3, none⟩) (v := .int .i32 y.ay) y3
       replace y4 := Kep.all g2 (a := ⟨w.heap.size + 1 + 1, 4, none⟩) (v := .int .i32 y.m) y4
       replace y5 := Kep.all g2 (a := ⟨w.heap.size + 1 + 1, 5, none⟩) (v := .int .i32 y.o) y5
       replace y6 := Kep.all g2 (a := ⟨w.heap.size + 1 + 1, 6, none⟩) (v := .int .i32 y.px) y6
       replace y7 := Kep.all g2 (a := ⟨w.heap.size + 1 + 1, 7, none⟩) (v := .int .i32 y.py) y7
       replace y8 := Kep.all g2 (a := ⟨w.heap.size + 1 + 1, 8, none⟩) (v := .int .i32 y.vx) y8
       replace y9 := Kep.all g2 (a := ⟨w.heap.size + 1 + 1, 9, none⟩) (v := .int .i32 y.vy) y9
       replace d0 := Kep.all g2 (a := ⟨w.heap.size + 1 + 1 + 1, 0, none⟩) (v := .int .i32 dx) d0
       replace d1 := Kep.all g2 (a := ⟨w.heap.size + 1 + 1 + 1, 1, none⟩) (v := .int .i32 dy) d1
       replace gg := kep_next gg g2
       have zc_w2 : w.heap.size < w2.heap.size := World.block_lt_of_cell? _ _ c0
       have zx_w2 : w.heap.size + 1 < w2.heap.size := World.block_lt_of_cell? _ _ x0
       have zy_w2 : w.heap.size + 1 + 1 < w2.heap.size := World.block_lt_of_cell? _ _ y0
       have zd_w2 : w.heap.size + 1 + 1 + 1 < w2.heap.size := World.block_lt_of_cell? _ _ d0)
    | ((with_reducible refine (I1.out _).mono ?_); rintro e w' ⟨rfl, rfl⟩)
    | ((with_reducible refine (I2.out _).mono ?_); rintro e w' ⟨rfl, rfl⟩))
  go_ret
  exact ⟨rfl, gg⟩
set_option maxRecDepth 100000 in
set_option maxHeartbeats 8000000 in
theorem ifl_main (AW : Hid IAwake) (lo hi nx ny dp dx dy ex ey fx fy v s : Int) (x y : Bd) (z : Bool) (RR : Hid (JRi lo hi nx ny dp x y true)) (I1 : Hid (∀ w, Calls Try.prog 18 #[.int .i32 dx, .int .i32 16777216] w fun e w' => e = .returned (.bool true) ∧ w = w')) (I2 : Hid (∀ w, Calls Try.prog 18 #[.int .i32 dy, .int .i32 16777216] w fun e w' => e = .returned (.bool true) ∧ w = w')) (a1 : IntKind.i32.wrap (x.vx + dx) = ex) (a2 : IntKind.i32.wrap (x.vy + dy) = ey) (a3 : IntKind.i32.wrap (y.vx + dx) = fx) (a4 : IntKind.i32.wrap (y.vy + dy) = fy)
    (R2 : Hid (∀ w, Calls Try.prog 9 #[.agg #[.int .u32 lo, .int .u32 hi, .int .i32 nx, .int .i32 ny, .int .i32 dp], .agg #[.int .u32 x.k, .int .i32 x.r, .int .i32 x.ax, .int .i32 x.ay, .int .i32 x.m, .int .i32 x.o, .int .i32 x.px, .int .i32 x.py, .int .i32 ex, .int .i32 ey], .agg #[.int .u32 y.k, .int .i32 y.r, .int .i32 y.ax, .int .i32 y.ay, .int .i32 y.m, .int .i32 y.o, .int .i32 y.px, .int .i32 y.py, .int .i32 fx, .int .i32 fy]] w fun e w' => e = .returned (.bool z) ∧ Kep w.heap.size w w')) (C1 : Hid (IAp lo hi nx ny dp x y v)) (C2 : Hid (ISt lo hi nx ny dp x y s)) (C3 : z = true → Hid (∀ w, Calls Try.prog 10 #[.agg #[.int .u32 lo, .int .u32 hi, .int .i32 nx, .int .i32 ny, .int .i32 dp], .agg #[.int .u32 x.k, .int .i32 x.r, .int .i32 x.ax, .int .i32 x.ay, .int .i32 x.m, .int .i32 x.o, .int .i32 x.px, .int .i32 x.py, .int .i32 ex, .int .i32 ey], .agg #[.int .u32 y.k, .int .i32 y.r, .int .i32 y.ax, .int .i32 y.ay, .int .i32 y.m, .int .i32 y.o, .int .i32 y.px, .int .i32 y.py, .int .i32 fx, .int .i32 fy]] w fun e w' => e = .returned (.int .i64 v) ∧ Kep w.heap.size w w')) (C4 : z = true → Hid (∀ w, Calls Try.prog 13 #[.agg #[.int .u32 lo, .int .u32 hi, .int .i32 nx, .int .i32 ny, .int .i32 dp], .agg #[.int .u32 x.k, .int .i32 x.r, .int .i32 x.ax, .int .i32 x.ay, .int .i32 x.m, .int .i32 x.o, .int .i32 x.px, .int .i32 x.py, .int .i32 ex, .int .i32 ey], .agg #[.int .u32 y.k, .int .i32 y.r, .int .i32 y.ax, .int .i32 y.ay, .int .i32 y.m, .int .i32 y.o, .int .i32 y.px, .int .i32 y.py, .int .i32 fx, .int .i32 fy]] w fun e w' => e = .returned (.int .i64 s) ∧ Kep w.heap.size w w')) (w : World) : Calls Try.prog 6 #[.agg #[.int .u32 lo, .int .u32 hi, .int .i32 nx, .int .i32 ny, .int .i32 dp], .agg #[.int .u32 x.k, .int .i32 x.r, .int .i32 x.ax, .int .i32 x.ay, .int .i32 x.m, .int .i32 x.o, .int .i32 x.px, .int .i32 x.py, .int .i32 x.vx, .int .i32 x.vy], .agg #[.int .u32 y.k, .int .i32 y.r, .int .i32 y.ax, .int .i32 y.ay, .int .i32 y.m, .int .i32 y.o, .int .i32 y.px, .int .i32 y.py, .int .i32 y.vx, .int .i32 y.vy], .agg #[.int .i32 dx, .int .i32 dy]] w fun e w' => e = .returned (.bool true) ∧ Kep w.heap.size w w' := by
  have e1 : (v == v) = true := by simp
  have e2 : (s == s) = true := by simp
  replace C3 := Lib.hid C3
  replace C4 := Lib.hid C4
  go_enter Try.func6, Try.ntmps6
  go_upto_region 3 with (first
    | ((with_reducible refine (AW.out _).mono ?_); rintro e w1 ⟨rfl, g1⟩
       have c0 := Kep.all g1 (a := ⟨w.heap.size, 0, none⟩) (v := .int .u32 lo) (by (repeat (first | rw [World.cell?_drew] | rw [World.cell?_alloc_past _ _ _ (by first | (simp; done) | (simp; omega))])); rw [World.cell?_alloc_at _ _ _ _ (by simp)]; rfl)
       have c1 := Kep.all g1 (a := ⟨w.heap.size, 1, none⟩) (v := .int .u32 hi) (by (repeat (first | rw [World.cell?_drew] | rw [World.cell?_alloc_past _ _ _ (by first | (simp; done) | (simp; omega))])); rw [World.cell?_alloc_at _ _ _ _ (by simp)]; rfl)
       have c2 := Kep.all g1 (a := ⟨w.heap.size, 2, none⟩) (v := .int .i32 nx) (by (repeat (first | rw [World.cell?_drew] | rw [World.cell?_alloc_past _ _ _ (by first | (simp; done) | (simp; omega))])); rw [World.cell?_alloc_at _ _ _ _ (by simp)]; rfl)
       have c3 := Kep.all g1 (a := ⟨w.heap.size, 3, none⟩) (v := .int .i32 ny) (by (repeat (first | rw [World.cell?_drew] | rw [World.cell?_alloc_past _ _ _ (by first | (simp; done) | (simp; omega))])); rw [World.cell?_alloc_at _ _ _ _ (by simp)]; rfl)
       have c4 := Kep.all g1 (a := ⟨w.heap.size, 4, none⟩) (v := .int .i32 dp) (by (repeat (first | rw [World.cell?_drew] | rw [World.cell?_alloc_past _ _ _ (by first | (simp; done) | (simp; omega))])); rw [World.cell?_alloc_at _ _ _ _ (by simp)]; rfl)
       have x0 := Kep.all g1 (a := ⟨w.heap.size + 1, 0, none⟩) (v := .int .u32 x.k) (by (repeat (first | rw [World.cell?_drew] | rw [World.cell?_alloc_past _ _ _ (by first | (simp; done) | (simp; omega))])); rw [World.cell?_alloc_at _ _ _ _ (by simp)]; rfl)
       have x1 := Kep.all g1 (a := ⟨w.heap.size + 1, 1, none⟩) (v := .int .i32 x.r) (by (repeat (first | rw [World.cell?_drew] | rw [World.cell?_alloc_past _ _ _ (by first | (simp; done) | (simp; omega))])); rw [World.cell?_alloc_at _ _ _ _ (by simp)]; rfl)
       have x2 := Kep.all g1 (a := ⟨w.heap.size + 1, 2, none⟩) (v := .int .i32 x.ax) (by (repeat (first | rw [World.cell?_drew] | rw [World.cell?_alloc_past _ _ _ (by first | (simp; done) | (simp; omega))])); rw [World.cell?_alloc_at _ _ _ _ (by simp)]; rfl)
       have x3 := Kep.all g1 (a := ⟨w.heap.size + 1, 3, none⟩) (v := .int .i32 x.ay) (by (repeat (first | rw [World.cell?_drew] | rw [World.cell?_alloc_past _ _ _ (by first | (simp; done) | (simp; omega))])); rw [World.cell?_alloc_at _ _ _ _ (by simp)]; rfl)
       have x4 := Kep.all g1 (a := ⟨w.heap.size + 1, 4, none⟩) (v := .int .i32 x.m) (by (repeat (first | rw [World.cell?_drew] | rw [World.cell?_alloc_past _ _ _ (by first | (simp; done) | (simp; omega))])); rw [World.cell?_alloc_at _ _ _ _ (by simp)]; rfl)
       have x5 := Kep.all g1 (a := ⟨w.heap.size + 1, 5, none⟩) (v := .int .i32 x.o) (by (repeat (first | rw [World.cell?_drew] | rw [World.cell?_alloc_past _ _ _ (by first | (simp; done) | (simp; omega))])); rw [World.cell?_alloc_at _ _ _ _ (by simp)]; rfl)
       have x6 := Kep.all g1 (a := ⟨w.heap.size + 1, 6, none⟩) (v := .int .i32 x.px) (by (repeat (first | rw [World.cell?_drew] | rw [World.cell?_alloc_past _ _ _ (by first | (simp; done) | (simp; omega))])); rw [World.cell?_alloc_at _ _ _ _ (by simp)]; rfl)
       have x7 := Kep.all g1 (a := ⟨w.heap.size + 1, 7, none⟩) (v := .int .i32 x.py) (by (repeat (first | rw [World.cell?_drew] | rw [World.cell?_alloc_past _ _ _ (by first | (simp; done) | (simp; omega))])); rw [World.cell?_alloc_at _ _ _ _ (by simp)]; rfl)
       have x8 := Kep.all g1 (a := ⟨w.heap.size + 1, 8, none⟩) (v := .int .i32 x.vx) (by (repeat (first | rw [World.cell?_drew] | rw [World.cell?_alloc_past _ _ _ (by first | (simp; done) | (simp; omega))])); rw [World.cell?_alloc_at _ _ _ _ (by simp)]; rfl)
       have x9 := Kep.all g1 (a := ⟨w.heap.size + 1, 9, none⟩) (v := .int .i32 x.vy) (by (repeat (first | rw [World.cell?_drew] | rw [World.cell?_alloc_past _ _ _ (by first | (simp; done) | (simp; omega))])); rw [World.cell?_alloc_at _ _ _ _ (by simp)]; rfl)
       have y0 := Kep.all g1 (a := ⟨w.heap.size + 1 + 1, 0, none⟩) (v := .int .u32 y.k) (by (repeat (first | rw [World.cell?_drew] | rw [World.cell?_alloc_past _ _ _ (by first | (simp; done) | (simp; omega))])); rw [World.cell?_alloc_at _ _ _ _ (by simp)]; rfl)
       have y1 := Kep.all g1 (a := ⟨w.heap.size + 1 + 1, 1, none⟩) (v := .int .i32 y.r) (by (repeat (first | rw [World.cell?_drew] | rw [World.cell?_alloc_past _ _ _ (by first | (simp; done) | (simp; omega))])); rw [World.cell?_alloc_at _ _ _ _ (by simp)]; rfl)
       have y2 := Kep.all g1 (a := ⟨w.heap.size + 1 + 1, 2, none⟩) (v := .int .i32 y.ax) (by (repeat (first | rw [World.cell?_drew] | rw [World.cell?_alloc_past _ _ _ (by first | (simp; done) | (simp; omega))])); rw [World.cell?_alloc_at _ _ _ _ (by simp)]; rfl)
       have y3 := Kep.all g1 (a := ⟨w.heap.size + 1 + 1, 3, none⟩) (v := .int .i32 y.ay) (by (repeat (first | rw [World.cell?_drew] | rw [World.cell?_alloc_past _ _ _ (by first | (simp; done) | (simp; omega))])); rw [World.cell?_alloc_at _ _ _ _ (by simp)]; rfl)
       have y4 := Kep.all g1 (a := ⟨w.heap.size + 1 + 1, 4, none⟩) (v := .int .i32 y.m) (by (repeat (first | rw [World.cell?_drew] | rw [World.cell?_alloc_past _ _ _ (by first | (simp; done) | (simp; omega))])); rw [World.cell?_alloc_at _ _ _ _ (by simp)]; rfl)
       have y5 := Kep.all g1 (a := ⟨w.heap.size + 1 + 1, 5, none⟩) (v := .int .i32 y.o) (by (repeat (first | rw [World.cell?_drew] | rw [World.cell?_alloc_past _ _ _ (by first | (simp; done) | (simp; omega))])); rw [World.cell?_alloc_at _ _ _ _ (by simp)]; rfl)
       have y6 := Kep.all g1 (a := ⟨w.heap.size + 1 + 1, 6, none⟩) (v := .int .i32 y.px) (by (repeat (first | rw [World.cell?_drew] | rw [World.cell?_alloc_past _ _ _ (by first | (simp; done) | (simp; omega))])); rw [World.cell?_alloc_at _ _ _ _ (by simp)]; rfl)
       have y7 := Kep.all g1 (a := ⟨w.heap.size + 1 + 1, 7, none⟩) (v := .int .i32 y.py) (by (repeat (first | rw [World.cell?_drew] | rw [World.cell?_alloc_past _ _ _ (by first | (simp; done) | (simp; omega))])); rw [World.cell?_alloc_at _ _ _ _ (by simp)]; rfl)
       have y8 := Kep.all g1 (a := ⟨w.heap.size + 1 + 1, 8, none⟩) (v := .int .i32 y.vx) (by (repeat (first | rw [World.cell?_drew] | rw [World.cell?_alloc_past _ _ _ (by first | (simp; done) | (simp; omega))])); rw [World.cell?_alloc_at _ _ _ _ (by simp)]; rfl)
       have y9 := Kep.all g1 (a := ⟨w.heap.size + 1 + 1, 9, none⟩) (v := .int .i32 y.vy) (by (repeat (first | rw [World.cell?_drew] | rw [World.cell?_alloc_past _ _ _ (by first | (simp; done) | (simp; omega))])); rw [World.cell?_alloc_at _ _ _ _ (by simp)]; rfl)
       have d0 := Kep.all g1 (a := ⟨w.heap.size + 1 + 1 + 1, 0, none⟩) (v := .int .i32 dx) (by (repeat (first | rw [World.cell?_drew] | rw [World.cell?_alloc_past _ _ _ (by first | (simp; done) | (simp; omega))])); rw [World.cell?_alloc_at _ _ _ _ (by simp)]; rfl)
       have d1 := Kep.all g1 (a := ⟨w.heap.size + 1 + 1 + 1, 1, none⟩) (v := .int .i32 dy) (by (repeat (first | rw [World.cell?_drew] | rw [World.cell?_alloc_past _ _ _ (by first | (simp; done) | (simp; omega))])); rw [World.cell?_alloc_at _ _ _ _ (by simp)]; rfl)
       have gg := kep_next (kep_more (kep_more (kep_more (kep_more (Kep.refl _ _) _) _) _) _) g1
       have zc_w1 : w.heap.size < w1.heap.size := World.block_lt_of_cell? _ _ c0
       have zx_w1 : w.heap.size + 1 < w1.heap.size := World.block_lt_of_cell? _ _ x0
       have zy_w1 : w.heap.size + 1 + 1 < w1.heap.size := World.block_lt_of_cell? _ _ y0
       have zd_w1 : w.heap.size + 1 + 1 + 1 < w1.heap.size := World.block_lt_of_cell? _ _ d0)
    | ((with_reducible refine (RR.out _).mono ?_); rintro e w2 ⟨rfl, g2⟩
       replace c0 := Kep.all g2 (a := ⟨w.heap.size, 0, none⟩) (v := .int .u32 lo) c0
       replace c1 := Kep.all g2 (a := ⟨w.heap.size, 1, none⟩) (v := .int .u32 hi) c1
       replace c2 := Kep.all g2 (a := ⟨w.heap.size, 2, none⟩) (v := .int .i32 nx) c2
       replace c3 := Kep.all g2 (a := ⟨w.heap.size, 3, none⟩) (v := .int .i32 ny) c3
       replace c4 := Kep.all g2 (a := ⟨w.heap.size, 4, none⟩) (v := .int .i32 dp) c4
       replace x0 := Kep.all g2 (a := ⟨w.heap.size + 1, 0, none⟩) (v := .int .u32 x.k) x0
       replace x1 := Kep.all g2 (a := ⟨w.heap.size + 1, 1, none⟩) (v := .int .i32 x.r) x1
       replace x2 := Kep.all g2 (a := ⟨w.heap.size + 1, 2, none⟩) (v := .int .i32 x.ax) x2
       replace x3 := Kep.all g2 (a := ⟨w.heap.size + 1, 3, none⟩) (v := .int .i32 x.ay) x3
       replace x4 := Kep.all g2 (a := ⟨w.heap.size + 1, 4, none⟩) (v := .int .i32 x.m) x4
       replace x5 := Kep.all g2 (a := ⟨w.heap.size + 1, 5, none⟩) (v := .int .i32 x.o) x5
       replace x6 := Kep.all g2 (a := ⟨w.heap.size + 1, 6, none⟩) (v := .int .i32 x.px) x6
       replace x7 := Kep.all g2 (a := ⟨w.heap.size + 1, 7, none⟩) (v := .int .i32 x.py) x7
       replace x8 := Kep.all g2 (a := ⟨w.heap.size + 1, 8, none⟩) (v := .int .i32 x.vx) x8
       replace x9 := Kep.all g2 (a := ⟨w.heap.size + 1, 9, none⟩) (v := .int .i32 x.vy) x9
       replace y0 := Kep.all g2 (a := ⟨w.heap.size + 1 + 1, 0, none⟩) (v := .int .u32 y.k) y0
       replace y1 := Kep.all g2 (a := ⟨w.heap.size + 1 + 1, 1, none⟩) (v := .int .i32 y.r) y1
       replace y2 := Kep.all g2 (a := ⟨w.heap.size + 1 + 1, 2, none⟩) (v := .int .i32 y.ax) y2
       replace y3 := Kep.all g2 (a := ⟨w.heap.size + 1 + 1, 3, none⟩) (v := .int .i32 y.ay) y3
       replace y4 := Kep.all g2 (a := ⟨w.heap.size + 1 + 1, 4, none⟩) (v := .int .i32 y.m) y4
       replace y5 := Kep.all g2 (a := ⟨w.heap.size + 1 + 1, 5, none⟩) (v := .int .i32 y.o) y5
       replace y6 := Kep.all g2 (a := ⟨w.heap.size + 1 + 1, 6, none⟩) (v := .int .i32 y.px) y6
       replace y7 := Kep.all g2 (a := ⟨w.heap.size + 1 + 1, 7, none⟩) (v := .int .i32 y.py) y7
       replace y8 := Kep.all g2 (a := ⟨w.heap.size + 1 + 1, 8, none⟩) (v := .int .i32 y.vx) y8
       replace y9 := Kep.all g2 (a := ⟨w.heap.size + 1 + 1, 9, none⟩) (v := .int .i32 y.vy) y9
       replace d0 := Kep.all g2 (a := ⟨w.heap.size + 1 + 1 + 1, 0, none⟩) (v := .int .i32 dx) d0
       replace d1 := Kep.all g2 (a := ⟨w.heap.size + 1 + 1 + 1, 1, none⟩) (v := .int .i32 dy) d1
       replace gg := kep_next gg g2
       have zc_w2 : w.heap.size < w2.heap.size := World.block_lt_of_cell? _ _ c0
       have zx_w2 : w.heap.size + 1 < w2.heap.size := World.block_lt_of_cell? _ _ x0
       have zy_w2 : w.heap.size + 1 + 1 < w2.heap.size := World.block_lt_of_cell? _ _ y0
       have zd_w2 : w.heap.size + 1 + 1 + 1 < w2.heap.size := World.block_lt_of_cell? _ _ d0)
    | ((with_reducible refine (I1.out _).mono ?_); rintro e w' ⟨rfl, rfl⟩)
    | ((with_reducible refine (I2.out _).mono ?_); rintro e w' ⟨rfl, rfl⟩))
  go_cut [9, 10] (fun s t wx => ∃ u1 u2 : Nat, s = .pointer (some ⟨u1, 0, none⟩) ∧ t = .pointer (some ⟨u2, 0, none⟩) ∧ (u1 ≠ u2 ∧ w2.heap.size ≤ u1 ∧ w2.heap.size ≤ u2) ∧ wx.cell? ⟨u1, 0, none⟩ = some (.int .u32 x.k) ∧ wx.cell? ⟨u1, 1, none⟩ = some (.int .i32 x.r) ∧ wx.cell? ⟨u1, 2, none⟩ = some (.int .i32 x.ax) ∧ wx.cell? ⟨u1, 3, none⟩ = some (.int .i32 x.ay) ∧ wx.cell? ⟨u1, 4, none⟩ = some (.int .i32 x.m) ∧ wx.cell? ⟨u1, 5, none⟩ = some (.int .i32 x.o) ∧ wx.cell? ⟨u1, 6, none⟩ = some (.int .i32 x.px) ∧ wx.cell? ⟨u1, 7, none⟩ = some (.int .i32 x.py) ∧ wx.cell? ⟨u1, 8, none⟩ = some (.int .i32 x.vx) ∧ wx.cell? ⟨u1, 9, none⟩ = some (.int .i32 x.vy) ∧ wx.cell? ⟨u2, 0, none⟩ = some (.int .u32 y.k) ∧ wx.cell? ⟨u2, 1, none⟩ = some (.int .i32 y.r) ∧ wx.cell? ⟨u2, 2, none⟩ = some (.int .i32 y.ax) ∧ wx.cell? ⟨u2, 3, none⟩ = some (.int .i32 y.ay) ∧ wx.cell? ⟨u2, 4, none⟩ = some (.int .i32 y.m) ∧ wx.cell? ⟨u2, 5, none⟩ = some (.int .i32 y.o) ∧ wx.cell? ⟨u2, 6, none⟩ = some (.int .i32 y.px) ∧ wx.cell? ⟨u2, 7, none⟩ = some (.int .i32 y.py) ∧ wx.cell? ⟨u2, 8, none⟩ = some (.int .i32 y.vx) ∧ wx.cell? ⟨u2, 9, none⟩ = some (.int .i32 y.vy) ∧ wx.cell? ⟨w.heap.size, 0, none⟩ = some (.int .u32 lo) ∧ wx.cell? ⟨w.heap.size, 1, none⟩ = some (.int .u32 hi) ∧ wx.cell? ⟨w.heap.size, 2, none⟩ = some (.int .i32 nx) ∧ wx.cell? ⟨w.heap.size, 3, none⟩ = some (.int .i32 ny) ∧ wx.cell? ⟨w.heap.size, 4, none⟩ = some (.int .i32 dp) ∧ wx.cell? ⟨w.heap.size + 1, 0, none⟩ = some (.int .u32 x.k) ∧ wx.cell? ⟨w.heap.size + 1, 1, none⟩ = some (.int .i32 x.r) ∧ wx.cell? ⟨w.heap.size + 1, 2, none⟩ = some (.int .i32 x.ax) ∧ wx.cell? ⟨w.heap.size + 1, 3, none⟩ = some (.int .i32 x.ay) ∧ wx.cell? ⟨w.heap.size + 1, 4, none⟩ = some (.int .i32 x.m) ∧ wx.cell? ⟨w.heap.size + 1, 5, none⟩ = some (.int .i32 x.o) ∧ wx.cell? ⟨w.heap.size + 1, 6, none⟩ = some (.int .i32 x.px) ∧ wx.cell? ⟨w.heap.size + 1, 7, none⟩ = some (.int .i32 x.py) ∧ wx.cell? ⟨w.heap.size + 1, 8, none⟩ = some (.int .i32 x.vx) ∧ wx.cell? ⟨w.heap.size + 1, 9, none⟩ = some (.int .i32 x.vy) ∧ wx.cell? ⟨w.heap.size + 1 + 1, 0, none⟩ = some (.int .u32 y.k) ∧ wx.cell? ⟨w.heap.size + 1 + 1, 1, none⟩ = some (.int .i32 y.r) ∧ wx.cell? ⟨w.heap.size + 1 + 1, 2, none⟩ = some (.int .i32 y.ax) ∧ wx.cell? ⟨w.heap.size + 1 + 1, 3, none⟩ = some (.int .i32 y.ay) ∧ wx.cell? ⟨w.heap.size + 1 + 1, 4, none⟩ = some (.int .i32 y.m) ∧ wx.cell? ⟨w.heap.size + 1 + 1, 5, none⟩ = some (.int .i32 y.o) ∧ wx.cell? ⟨w.heap.size + 1 + 1, 6, none⟩ = some (.int .i32 y.px) ∧ wx.cell? ⟨w.heap.size + 1 + 1, 7, none⟩ = some (.int .i32 y.py) ∧ wx.cell? ⟨w.heap.size + 1 + 1, 8, none⟩ = some (.int .i32 y.vx) ∧ wx.cell? ⟨w.heap.size + 1 + 1, 9, none⟩ = some (.int .i32 y.vy) ∧ wx.cell? ⟨w.heap.size + 1 + 1 + 1, 0, none⟩ = some (.int .i32 dx) ∧ wx.cell? ⟨w.heap.size + 1 + 1 + 1, 1, none⟩ = some (.int .i32 dy) ∧ (wx.frozen? ⟨u1, 8, none⟩ = false ∧ wx.frozen? ⟨u1, 9, none⟩ = false ∧ wx.frozen? ⟨u2, 8, none⟩ = false ∧ wx.frozen? ⟨u2, 9, none⟩ = false) ∧ Kep w.heap.size w wx)
  case first =>
    go_region_held3 (fun w' => w'.cell? ⟨w.heap.size, 0, none⟩ = some (.int .u32 lo) ∧ w'.cell? ⟨w.heap.size, 1, none⟩ = some (.int .u32 hi) ∧ w'.cell? ⟨w.heap.size, 2, none⟩ = some (.int .i32 nx) ∧ w'.cell? ⟨w.heap.size, 3, none⟩ = some (.int .i32 ny) ∧ w'.cell? ⟨w.heap.size, 4, none⟩ = some (.int .i32 dp) ∧ w'.cell? ⟨w.heap.size + 1, 0, none⟩ = some (.int .u32 x.k) ∧ w'.cell? ⟨w.heap.size + 1, 1, none⟩ = some (.int .i32 x.r) ∧ w'.cell? ⟨w.heap.size + 1, 2, none⟩ = some (.int .i32 x.ax) ∧ w'.cell? ⟨w.heap.size + 1, 3, none⟩ = some (.int .i32 x.ay) ∧ w'.cell? ⟨w.heap.size + 1, 4, none⟩ = some (.int .i32 x.m) ∧ w'.cell? ⟨w.heap.size + 1, 5, none⟩ = some (.int .i32 x.o) ∧ w'.cell? ⟨w.heap.size + 1, 6, none⟩ = some (.int .i32 x.px) ∧ w'.cell? ⟨w.heap.size + 1, 7, none⟩ = some (.int .i32 x.py) ∧ w'.cell? ⟨w.heap.size + 1, 8, none⟩ = some (.int .i32 x.vx) ∧ w'.cell? ⟨w.heap.size + 1, 9, none⟩ = some (.int .i32 x.vy) ∧ w'.cell? ⟨w.heap.size + 1 + 1, 0, none⟩ = some (.int .u32 y.k) ∧ w'.cell? ⟨w.heap.size + 1 + 1, 1, none⟩ = some (.int .i32 y.r) ∧ w'.cell? ⟨w.heap.size + 1 + 1, 2, none⟩ = some (.int .i32 y.ax) ∧ w'.cell? ⟨w.heap.size + 1 + 1, 3, none⟩ = some (.int .i32 y.ay) ∧ w'.cell? ⟨w.heap.size + 1 + 1, 4, none⟩ = some (.int .i32 y.m) ∧ w'.cell? ⟨w.heap.size + 1 + 1, 5, none⟩ = some (.int .i32 y.o) ∧ w'.cell? ⟨w.heap.size + 1 + 1, 6, none⟩ = some (.int .i32 y.px) ∧ w'.cell? ⟨w.heap.size + 1 + 1, 7, none⟩ = some (.int .i32 y.py) ∧ w'.cell? ⟨w.heap.size + 1 + 1, 8, none⟩ = some (.int .i32 y.vx) ∧ w'.cell? ⟨w.heap.size + 1 + 1, 9, none⟩ = some (.int .i32 y.vy) ∧ w'.cell? ⟨w.heap.size + 1 + 1 + 1, 0, none⟩ = some (.int .i32 dx) ∧ w'.cell? ⟨w.heap.size + 1 + 1 + 1, 1, none⟩ = some (.int .i32 dy) ∧ Kep w.heap.size w w')
      (first | (with_reducible assumption) | exact ⟨(by (repeat (first | rw [World.cell?_drew] | rw [World.cell?_alloc_past _ _ _ (by first | omega | (simp; done) | (simp; omega))])); exact c0), (by (repeat (first | rw [World.cell?_drew] | rw [World.cell?_alloc_past _ _ _ (by first | omega | (simp; done) | (simp; omega))])); exact c1), (by (repeat (first | rw [World.cell?_drew] | rw [World.cell?_alloc_past _ _ _ (by first | omega | (simp; done) | (simp; omega))])); exact c2), (by (repeat (first | rw [World.cell?_drew] | rw [World.cell?_alloc_past _ _ _ (by first | omega | (simp; done) | (simp; omega))])); exact c3), (by (repeat (first | rw [World.cell?_drew] | rw [World.cell?_alloc_past _ _ _ (by first | omega | (simp; done) | (simp; omega))])); exact c4), (by (repeat (first | rw [World.cell?_drew] | rw [World.cell?_alloc_past _ _ _ (by first | omega | (simp; done) | (simp; omega))])); exact x0), (by (repeat (first | rw [World.cell?_drew] | rw [World.cell?_alloc_past _ _ _ (by first | omega | (simp; done) | (simp; omega))])); exact x1), (by (repeat (first | rw [World.cell?_drew] | rw [World.cell?_alloc_past _ _ _ (by first | omega | (simp; done) | (simp; omega))])); exact x2), (by (repeat (first | rw [World.cell?_drew] | rw [World.cell?_alloc_past _ _ _ (by first | omega | (simp; done) | (simp; omega))])); exact x3), (by (repeat (first | rw [World.cell?_drew] | rw [World.cell?_alloc_past _ _ _ (by first | omega | (simp; done) | (simp; omega))])); exact x4), (by (repeat (first | rw [World.cell?_drew] | rw [World.cell?_alloc_past _ _ _ (by first | omega | (simp; done) | (simp; omega))])); exact x5), (by (repeat (first | rw [World.cell?_drew] | rw [World.cell?_alloc_past _ _ _ (by first | omega | (simp; done) | (simp; omega))])); exact x6), (by (repeat (first | rw [World.cell?_drew] | rw [World.cell?_alloc_past _ _ _ (by first | omega | (simp; done) | (simp; omega))])); exact x7), (by (repeat (first | rw [World.cell?_drew] | rw [World.cell?_alloc_past _ _ _ (by first | omega | (simp; done) | (simp; omega))])); exact x8), (by (repeat (first | rw [World.cell?_drew] | rw [World.cell?_alloc_past _ _ _ (by first | omega | (simp; done) | (simp; omega))])); exact x9), (by (repeat (first | rw [World.cell?_drew] | rw [World.cell?_alloc_past _ _ _ (by first | omega | (simp; done) | (simp; omega))])); exact y0), (by (repeat (first | rw [World.cell?_drew] | rw [World.cell?_alloc_past _ _ _ (by first | omega | (simp; done) | (simp; omega))])); exact y1), (by (repeat (first | rw [World.cell?_drew] | rw [World.cell?_alloc_past _ _ _ (by first | omega | (simp; done) | (simp; omega))])); exact y2), (by (repeat (first | rw [World.cell?_drew] | rw [World.cell?_alloc_past _ _ _ (by first | omega | (simp; done) | (simp; omega))])); exact y3), (by (repeat (first | rw [World.cell?_drew] | rw [World.cell?_alloc_past _ _ _ (by first | omega | (simp; done) | (simp; omega))])); exact y4), (by (repeat (first | rw [World.cell?_drew] | rw [World.cell?_alloc_past _ _ _ (by first | omega | (simp; done) | (simp; omega))])); exact y5), (by (repeat (first | rw [World.cell?_drew] | rw [World.cell?_alloc_past _ _ _ (by first | omega | (simp; done) | (simp; omega))])); exact y6), (by (repeat (first | rw [World.cell?_drew] | rw [World.cell?_alloc_past _ _ _ (by first | omega | (simp; done) | (simp; omega))])); exact y7), (by (repeat (first | rw [World.cell?_drew] | rw [World.cell?_alloc_past _ _ _ (by first | omega | (simp; done) | (simp; omega))])); exact y8), (by (repeat (first | rw [World.cell?_drew] | rw [World.cell?_alloc_past _ _ _ (by first | omega | (simp; done) | (simp; omega))])); exact y9), (by (repeat (first | rw [World.cell?_drew] | rw [World.cell?_alloc_past _ _ _ (by first | omega | (simp; done) | (simp; omega))])); exact d0), (by (repeat (first | rw [World.cell?_drew] | rw [World.cell?_alloc_past _ _ _ (by first | omega | (simp; done) | (simp; omega))])); exact d1), by (repeat first | exact gg | refine kep_drew ?_ | refine kep_more ?_ _)⟩)
      (fail)
    all_goals (
      go_wp2_with fail
      go_meet
      refine ⟨_, _, rfl, rfl, by (refine ⟨?_, ?_, ?_⟩ <;> first | (simp; done) | omega), ?_⟩
      exact ⟨(by (repeat (first | rw [World.cell?_drew] | rw [World.cell?_alloc_past _ _ _ (by first | (simp; done) | (simp; omega))])); rw [World.cell?_alloc_at _ _ _ _ (by simp)]; rfl), (by (repeat (first | rw [World.cell?_drew] | rw [World.cell?_alloc_past _ _ _ (by first | (simp; done) | (simp; omega))])); rw [World.cell?_alloc_at _ _ _ _ (by simp)]; rfl), (by (repeat (first | rw [World.cell?_drew] | rw [World.cell?_alloc_past _ _ _ (by first | (simp; done) | (simp; omega))])); rw [World.cell?_alloc_at _ _ _ _ (by simp)]; rfl), (by (repeat (first | rw [World.cell?_drew] | rw [World.cell?_alloc_past _ _ _ (by first | (simp; done) | (simp; omega))])); rw [World.cell?_alloc_at _ _ _ _ (by simp)]; rfl), (by (repeat (first | rw [World.cell?_drew] | rw [World.cell?_alloc_past _ _ _ (by first | (simp; done) | (simp; omega))])); rw [World.cell?_alloc_at _ _ _ _ (by simp)]; rfl), (by (repeat (first | rw [World.cell?_drew] | rw [World.cell?_alloc_past _ _ _ (by first | (simp; done) | (simp; omega))])); rw [World.cell?_alloc_at _ _ _ _ (by simp)]; rfl), (by (repeat (first | rw [World.cell?_drew] | rw [World.cell?_alloc_past _ _ _ (by first | (simp; done) | (simp; omega))])); rw [World.cell?_alloc_at _ _ _ _ (by simp)]; rfl), (by (repeat (first | rw [World.cell?_drew] | rw [World.cell?_alloc_past _ _ _ (by first | (simp; done) | (simp; omega))])); rw [World.cell?_alloc_at _ _ _ _ (by simp)]; rfl), (by (repeat (first | rw [World.cell?_drew] | rw [World.cell?_alloc_past _ _ _ (by first | (simp; done) | (simp; omega))])); rw [World.cell?_alloc_at _ _ _ _ (by simp)]; rfl), (by (repeat (first | rw [World.cell?_drew] | rw [World.cell?_alloc_past _ _ _ (by first | (simp; done) | (simp; omega))])); rw [World.cell?_alloc_at _ _ _ _ (by simp)]; rfl), (by (repeat (first | rw [World.cell?_drew] | rw [World.cell?_alloc_past _ _ _ (by first | (simp; done) | (simp; omega))])); rw [World.cell?_alloc_at _ _ _ _ (by simp)]; rfl), (by (repeat (first | rw [World.cell?_drew] | rw [World.cell?_alloc_past _ _ _ (by first | (simp; done) | (simp; omega))])); rw [World.cell?_alloc_at _ _ _ _ (by simp)]; rfl), (by (repeat (first | rw [World.cell?_drew] | rw [World.cell?_alloc_past _ _ _ (by first | (simp; done) | (simp; omega))])); rw [World.cell?_alloc_at _ _ _ _ (by simp)]; rfl), (by (repeat (first | rw [World.cell?_drew] | rw [World.cell?_alloc_past _ _ _ (by first | (simp; done) | (simp; omega))])); rw [World.cell?_alloc_at _ _ _ _ (by simp)]; rfl), (by (repeat (first | rw [World.cell?_drew] | rw [World.cell?_alloc_past _ _ _ (by first | (simp; done) | (simp; omega))])); rw [World.cell?_alloc_at _ _ _ _ (by simp)]; rfl), (by (repeat (first | rw [World.cell?_drew] | rw [World.cell?_alloc_past _ _ _ (by first | (simp; done) | (simp; omega))])); rw [World.cell?_alloc_at _ _ _ _ (by simp)]; rfl), (by (repeat (first | rw [World.cell?_drew] | rw [World.cell?_alloc_past _ _ _ (by first | (simp; done) | (simp; omega))])); rw [World.cell?_alloc_at _ _ _ _ (by simp)]; rfl), (by (repeat (first | rw [World.cell?_drew] | rw [World.cell?_alloc_past _ _ _ (by first | (simp; done) | (simp; omega))])); rw [World.cell?_alloc_at _ _ _ _ (by simp)]; rfl), (by (repeat (first | rw [World.cell?_drew] | rw [World.cell?_alloc_past _ _ _ (by first | (simp; done) | (simp; omega))])); rw [World.cell?_alloc_at _ _ _ _ (by simp)]; rfl), (by (repeat (first | rw [World.cell?_drew] | rw [World.cell?_alloc_past _ _ _ (by first | (simp; done) | (simp; omega))])); rw [World.cell?_alloc_at _ _ _ _ (by simp)]; rfl), (by (repeat rw [World.cell?_drew]); exact Kep.all (kep_more (kep_more (Kep.refl _ _) _) _) c0), (by (repeat rw [World.cell?_drew]); exact Kep.all (kep_more (kep_more (Kep.refl _ _) _) _) c1), (by (repeat rw [World.cell?_drew]); exact Kep.all (kep_more (kep_more (Kep.refl _ _) _) _) c2), (by (repeat rw [World.cell?_drew]); exact Kep.all (kep_more (kep_more (Kep.refl _ _) _) _) c3), (by (repeat rw [World.cell?_drew]); exact Kep.all (kep_more (kep_more (Kep.refl _ _) _) _) c4), (by (repeat rw [World.cell?_drew]); exact Kep.all (kep_more (kep_more (Kep.refl _ _) _) _) x0), (by (repeat rw [World.cell?_drew]); exact Kep.all (kep_more (kep_more (Kep.refl _ _) _) _) x1), (by (repeat rw [World.cell?_drew]); exact Kep.all (kep_more (kep_more (Kep.refl _ _) _) _) x2), (by (repeat rw [World.cell?_drew]); exact Kep.all (kep_more (kep_more (Kep.refl _ _) _) _) x3), (by (repeat rw [World.cell?_drew]); exact Kep.all (kep_more (kep_more (Kep.refl _ _) _) _) x4), (by (repeat rw [World.cell?_drew]); exact Kep.all (kep_more (kep_more (Kep.refl _ _) _) _) x5), (by (repeat rw [World.cell?_drew]); exact Kep.all (kep_more (kep_more (Kep.refl _ _) _) _) x6), (by (repeat rw [World.cell?_drew]); exact Kep.all (kep_more (kep_more (Kep.refl _ _) _) _) x7), (by (repeat rw [World.cell?_drew]); exact Kep.all (kep_more (kep_more (Kep.refl _ _) _) _) x8), (by (repeat rw [World.cell?_drew]); exact Kep.all (kep_more (kep_more (Kep.refl _ _) _) _) x9), (by (repeat rw [World.cell?_drew]); exact Kep.all (kep_more (kep_more (Kep.refl _ _) _) _) y0), (by (repeat rw [World.cell?_drew]); exact Kep.all (kep_more (kep_more (Kep.refl _ _) _) _) y1), (by (repeat rw [World.cell?_drew]); exact Kep.all (kep_more (kep_more (Kep.refl _ _) _) _) y2), (by (repeat rw [World.cell?_drew]); exact Kep.all (kep_more (kep_more (Kep.refl _ _) _) _) y3), (by (repeat rw [World.cell?_drew]); exact Kep.all (kep_more (kep_more (Kep.refl _ _) _) _) y4), (by (repeat rw [World.cell?_drew]); exact Kep.all (kep_more (kep_more (Kep.refl _ _) _) _) y5), (by (repeat rw [World.cell?_drew]); exact Kep.all (kep_more (kep_more (Kep.refl _ _) _) _) y6), (by (repeat rw [World.cell?_drew]); exact Kep.all (kep_more (kep_more (Kep.refl _ _) _) _) y7), (by (repeat rw [World.cell?_drew]); exact Kep.all (kep_more (kep_more (Kep.refl _ _) _) _) y8), (by (repeat rw [World.cell?_drew]); exact Kep.all (kep_more (kep_more (Kep.refl _ _) _) _) y9), (by (repeat rw [World.cell?_drew]); exact Kep.all (kep_more (kep_more (Kep.refl _ _) _) _) d0), (by (repeat rw [World.cell?_drew]); exact Kep.all (kep_more (kep_more (Kep.refl _ _) _) _) d1), ⟨(by (repeat (first | rw [World.frozen?_drew] | rw [World.frozen?_alloc_past _ _ _ (by first | (simp; done) | (simp; omega))])); rw [World.frozen?_alloc_at _ _ _ _ (by simp)]), (by (repeat (first | rw [World.frozen?_drew] | rw [World.frozen?_alloc_past _ _ _ (by first | (simp; done) | (simp; omega))])); rw [World.frozen?_alloc_at _ _ _ _ (by simp)]), (by (repeat (first | rw [World.frozen?_drew] | rw [World.frozen?_alloc_past _ _ _ (by first | (simp; done) | (simp; omega))])); rw [World.frozen?_alloc_at _ _ _ _ (by simp)]), (by (repeat (first | rw [World.frozen?_drew] | rw [World.frozen?_alloc_past _ _ _ (by first | (simp; done) | (simp; omega))])); rw [World.frozen?_alloc_at _ _ _ _ (by simp)])⟩, by repeat (first | exact kep_more (kep_more gg _) _ | exact kep_drew (kep_more (kep_more gg _) _) | refine kep_drew ?_)⟩)
  case rest =>
    obtain ⟨u1, u2, rfl, rfl, hne, hx0, hx1, hx2, hx3, hx4, hx5, hx6, hx7, hx8, hx9, hy0, hy1, hy2, hy3, hy4, hy5, hy6, hy7, hy8, hy9, c0, c1, c2, c3, c4, x0, x1, x2, x3, x4, x5, x6, x7, x8, x9, y0, y1, y2, y3, y4, y5, y6, y7, y8, y9, d0, d1, hfz, gg⟩ := hcut
    obtain ⟨f1, f2, f3, f4⟩ := hfz
    obtain ⟨n1, n2, n3⟩ := hne
    have n4 := n1.symm
    have m1c : u1 ≠ w.heap.size := by omega
    have m1x : u1 ≠ w.heap.size + 1 := by omega
    have m1y : u1 ≠ w.heap.size + 1 + 1 := by omega
    have m1d : u1 ≠ w.heap.size + 1 + 1 + 1 := by omega
    have m2c : u2 ≠ w.heap.size := by omega
    have m2x : u2 ≠ w.heap.size + 1 := by omega
    have m2y : u2 ≠ w.heap.size + 1 + 1 := by omega
    have m2d : u2 ≠ w.heap.size + 1 + 1 + 1 := by omega
    have zhx_wc : u1 < wc.heap.size := World.block_lt_of_cell? _ _ hx0
    have zhy_wc : u2 < wc.heap.size := World.block_lt_of_cell? _ _ hy0
    have zc_wc : w.heap.size < wc.heap.size := World.block_lt_of_cell? _ _ c0
    have zx_wc : w.heap.size + 1 < wc.heap.size := World.block_lt_of_cell? _ _ x0
    have zy_wc : w.heap.size + 1 + 1 < wc.heap.size := World.block_lt_of_cell? _ _ y0
    have zd_wc : w.heap.size + 1 + 1 + 1 < wc.heap.size := World.block_lt_of_cell? _ _ d0
    go_upto_region 6 with fail
    generalize hW : World.setCell (World.setCell (World.setCell (World.setCell _ _ _) _ _) _ _) _ _ = W7
    replace hx0 : W7.cell? ⟨u1, 0, none⟩ = some (.int .u32 x.k) := by rw [← hW]; exact sset_far (sset_far (by rw [World.cell?_setCell_other (h := by simp), World.cell?_setCell_other (h := by simp)]; exact hx0) n4) n4
    replace hx1 : W7.cell? ⟨u1, 1, none⟩ = some (.int .i32 x.r) := by rw [← hW]; exact sset_far (sset_far (by rw [World.cell?_setCell_other (h := by simp), World.cell?_setCell_other (h := by simp)]; exact hx1) n4) n4
    replace hx2 : W7.cell? ⟨u1, 2, none⟩ = some (.int .i32 x.ax) := by rw [← hW]; exact sset_far (sset_far (by rw [World.cell?_setCell_other (h := by simp), World.cell?_setCell_other (h := by simp)]; exact hx2) n4) n4
    replace hx3 : W7.cell? ⟨u1, 3, none⟩ = some (.int .i32 x.ay) := by rw [← hW]; exact sset_far (sset_far (by rw [World.cell?_setCell_other (h := by simp), World.cell?_setCell_other (h := by simp)]; exact hx3) n4) n4
    replace hx4 : W7.cell? ⟨u1, 4, none⟩ = some (.int .i32 x.m) := by rw [← hW]; exact sset_far (sset_far (by rw [World.cell?_setCell_other (h := by simp), World.cell?_setCell_other (h := by simp)]; exact hx4) n4) n4
    replace hx5 : W7.cell? ⟨u1, 5, none⟩ = some (.int .i32 x.o) := by rw [← hW]; exact sset_far (sset_far (by rw [World.cell?_setCell_other (h := by simp), World.cell?_setCell_other (h := by simp)]; exact hx5) n4) n4
    replace hx6 : W7.cell? ⟨u1, 6, none⟩ = some (.int .i32 x.px) := by rw [← hW]; exact sset_far (sset_far (by rw [World.cell?_setCell_other (h := by simp), World.cell?_setCell_other (h := by simp)]; exact hx6) n4) n4
    replace hx7 : W7.cell? ⟨u1, 7, none⟩ = some (.int .i32 x.py) := by rw [← hW]; exact sset_far (sset_far (by rw [World.cell?_setCell_other (h := by simp), World.cell?_setCell_other (h := by simp)]; exact hx7) n4) n4
    replace hy0 : W7.cell? ⟨u2, 0, none⟩ = some (.int .u32 y.k) := by rw [← hW]; exact (by rw [World.cell?_setCell_other (h := by simp), World.cell?_setCell_other (h := by simp)]; exact sset_far (sset_far hy0 n1) n1)
    replace hy1 : W7.cell? ⟨u2, 1, none⟩ = some (.int .i32 y.r) := by rw [← hW]; exact (by rw [World.cell?_setCell_other (h := by simp), World.cell?_setCell_other (h := by simp)]; exact sset_far (sset_far hy1 n1) n1)
    replace hy2 : W7.cell? ⟨u2, 2, none⟩ = some (.int .i32 y.ax) := by rw [← hW]; exact (by rw [World.cell?_setCell_other (h := by simp), World.cell?_setCell_other (h := by simp)]; exact sset_far (sset_far hy2 n1) n1)
    replace hy3 : W7.cell? ⟨u2, 3, none⟩ = some (.int .i32 y.ay) := by rw [← hW]; exact (by rw [World.cell?_setCell_other (h := by simp), World.cell?_setCell_other (h := by simp)]; exact sset_far (sset_far hy3 n1) n1)
    replace hy4 : W7.cell? ⟨u2, 4, none⟩ = some (.int .i32 y.m) := by rw [← hW]; exact (by rw [World.cell?_setCell_other (h := by simp), World.cell?_setCell_other (h := by simp)]; exact sset_far (sset_far hy4 n1) n1)
    replace hy5 : W7.cell? ⟨u2, 5, none⟩ = some (.int .i32 y.o) := by rw [← hW]; exact (by rw [World.cell?_setCell_other (h := by simp), World.cell?_setCell_other (h := by simp)]; exact sset_far (sset_far hy5 n1) n1)
    replace hy6 : W7.cell? ⟨u2, 6, none⟩ = some (.int .i32 y.px) := by rw [← hW]; exact (by rw [World.cell?_setCell_other (h := by simp), World.cell?_setCell_other (h := by simp)]; exact sset_far (sset_far hy6 n1) n1)
    replace hy7 : W7.cell? ⟨u2, 7, none⟩ = some (.int .i32 y.py) := by rw [← hW]; exact (by rw [World.cell?_setCell_other (h := by simp), World.cell?_setCell_other (h := by simp)]; exact sset_far (sset_far hy7 n1) n1)
    replace hx8 : W7.cell? ⟨u1, 8, none⟩ = some (.int .i32 ex) := by rw [← hW]; exact sset_far (sset_far (by rw [World.cell?_setCell_other (h := by simp)]; exact World.cell?_setCell_same' _ _ _ (by rw [hx8]; rfl)) n4) n4
    replace hx9 : W7.cell? ⟨u1, 9, none⟩ = some (.int .i32 ey) := by rw [← hW]; exact sset_far (sset_far (World.cell?_setCell_same' _ _ _ (by rw [World.cell?_setCell_other (h := by simp), hx9]; rfl)) n4) n4
    replace hy8 : W7.cell? ⟨u2, 8, none⟩ = some (.int .i32 fx) := by rw [← hW]; exact (by rw [World.cell?_setCell_other (h := by simp)]; exact World.cell?_setCell_same' _ _ _ (by rw [sset_far (sset_far hy8 n1) n1]; rfl))
    replace hy9 : W7.cell? ⟨u2, 9, none⟩ = some (.int .i32 fy) := by rw [← hW]; exact World.cell?_setCell_same' _ _ _ (by rw [World.cell?_setCell_other (h := by simp), sset_far (sset_far hy9 n1) n1]; rfl)
    replace c0 : W7.cell? ⟨w.heap.size, 0, none⟩ = some (.int .u32 lo) := by rw [← hW]; exact sset_far (sset_far (sset_far (sset_far c0 m1c) m1c) m2c) m2c
    replace c1 : W7.cell? ⟨w.heap.size, 1, none⟩ = some (.int .u32 hi) := by rw [← hW]; exact sset_far (sset_far (sset_far (sset_far c1 m1c) m1c) m2c) m2c
    replace c2 : W7.cell? ⟨w.heap.size, 2, none⟩ = some (.int .i32 nx) := by rw [← hW]; exact sset_far (sset_far (sset_far (sset_far c2 m1c) m1c) m2c) m2c
    replace c3 : W7.cell? ⟨w.heap.size, 3, none⟩ = some (.int .i32 ny) := by rw [← hW]; exact sset_far (sset_far (sset_far (sset_far c3 m1c) m1c) m2c) m2c
    replace c4 : W7.cell? ⟨w.heap.size, 4, none⟩ = some (.int .i32 dp) := by rw [← hW]; exact sset_far (sset_far (sset_far (sset_far c4 m1c) m1c) m2c) m2c
    replace x0 : W7.cell? ⟨w.heap.size + 1, 0, none⟩ = some (.int .u32 x.k) := by rw [← hW]; exact sset_far (sset_far (sset_far (sset_far x0 m1x) m1x) m2x) m2x
    replace x1 : W7.cell? ⟨w.heap.size + 1, 1, none⟩ = some (.int .i32 x.r) := by rw [← hW]; exact sset_far (sset_far (sset_far (sset_far x1 m1x) m1x) m2x) m2x
    replace x2 : W7.cell? ⟨w.heap.size + 1, 2, none⟩ = some (.int .i32 x.ax) := by rw [← hW]; exact sset_far (sset_far (sset_far (sset_far x2 m1x) m1x) m2x) m2x
    replace x3 : W7.cell? ⟨w.heap.size + 1, 3, none⟩ = some (.int .i32 x.ay) := by rw [← hW]; exact sset_far (sset_far (sset_far (sset_far x3 m1x) m1x) m2x) m2x
    replace x4 : W7.cell? ⟨w.heap.size + 1, 4, none⟩ = some (.int .i32 x.m) := by rw [← hW]; exact sset_far (sset_far (sset_far (sset_far x4 m1x) m1x) m2x) m2x
    replace x5 : W7.cell? ⟨w.heap.size + 1, 5, none⟩ = some (.int .i32 x.o) := by rw [← hW]; exact sset_far (sset_far (sset_far (sset_far x5 m1x) m1x) m2x) m2x
    replace x6 : W7.cell? ⟨w.heap.size + 1, 6, none⟩ = some (.int .i32 x.px) := by rw [← hW]; exact sset_far (sset_far (sset_far (sset_far x6 m1x) m1x) m2x) m2x
    replace x7 : W7.cell? ⟨w.heap.size + 1, 7, none⟩ = some (.int .i32 x.py) := by rw [← hW]; exact sset_far (sset_far (sset_far (sset_far x7 m1x) m1x) m2x) m2x
    replace x8 : W7.cell? ⟨w.heap.size + 1, 8, none⟩ = some (.int .i32 x.vx) := by rw [← hW]; exact sset_far (sset_far (sset_far (sset_far x8 m1x) m1x) m2x) m2x
    replace x9 : W7.cell? ⟨w.heap.size + 1, 9, none⟩ = some (.int .i32 x.vy) := by rw [← hW]; exact sset_far (sset_far (sset_far (sset_far x9 m1x) m1x) m2x) m2x
    replace y0 : W7.cell? ⟨w.heap.size + 1 + 1, 0, none⟩ = some (.int .u32 y.k) := by rw [← hW]; exact sset_far (sset_far (sset_far (sset_far y0 m1y) m1y) m2y) m2y
    replace y1 : W7.cell? ⟨w.heap.size + 1 + 1, 1, none⟩ = some (.int .i32 y.r) := by rw [← hW]; exact sset_far (sset_far (sset_far (sset_far y1 m1y) m1y) m2y) m2y
    replace y2 : W7.cell? ⟨w.heap.size + 1 + 1, 2, none⟩ = some (.int .i32 y.ax) := by rw [← hW]; exact sset_far (sset_far (sset_far (sset_far y2 m1y) m1y) m2y) m2y
    replace y3 : W7.cell? ⟨w.heap.size + 1 + 1, 3, none⟩ = some (.int .i32 y.ay) := by rw [← hW]; exact sset_far (sset_far (sset_far (sset_far y3 m1y) m1y) m2y) m2y
    replace y4 : W7.cell? ⟨w.heap.size + 1 + 1, 4, none⟩ = some (.int .i32 y.m) := by rw [← hW]; exact sset_far (sset_far (sset_far (sset_far y4 m1y) m1y) m2y) m2y
    replace y5 : W7.cell? ⟨w.heap.size + 1 + 1, 5, none⟩ = some (.int .i32 y.o) := by rw [← hW]; exact sset_far (sset_far (sset_far (sset_far y5 m1y) m1y) m2y) m2y
    replace y6 : W7.cell? ⟨w.heap.size + 1 + 1, 6, none⟩ = some (.int .i32 y.px) := by rw [← hW]; exact sset_far (sset_far (sset_far (sset_far y6 m1y) m1y) m2y) m2y
    replace y7 : W7.cell? ⟨w.heap.size + 1 + 1, 7, none⟩ = some (.int .i32 y.py) := by rw [← hW]; exact sset_far (sset_far (sset_far (sset_far y7 m1y) m1y) m2y) m2y
    replace y8 : W7.cell? ⟨w.heap.size + 1 + 1, 8, none⟩ = some (.int .i32 y.vx) := by rw [← hW]; exact sset_far (sset_far (sset_far (sset_far y8 m1y) m1y) m2y) m2y
    replace y9 : W7.cell? ⟨w.heap.size + 1 + 1, 9, none⟩ = some (.int .i32 y.vy) := by rw [← hW]; exact sset_far (sset_far (sset_far (sset_far y9 m1y) m1y) m2y) m2y
    replace d0 : W7.cell? ⟨w.heap.size + 1 + 1 + 1, 0, none⟩ = some (.int .i32 dx) := by rw [← hW]; exact sset_far (sset_far (sset_far (sset_far d0 m1d) m1d) m2d) m2d
    replace d1 : W7.cell? ⟨w.heap.size + 1 + 1 + 1, 1, none⟩ = some (.int .i32 dy) := by rw [← hW]; exact sset_far (sset_far (sset_far (sset_far d1 m1d) m1d) m2d) m2d
    replace gg : Kep w.heap.size w W7 := by rw [← hW]; exact kep_set (kep_set (kep_set (kep_set gg (by dsimp only; omega) _) (by dsimp only; omega) _) (by dsimp only; omega) _) (by dsimp only; omega) _
    clear hW f1 f2 f3 f4 n1 n2 n3 n4 m1c m1x m1y m1d m2c m2x m2y m2d
    have zhx_W7 : u1 < W7.heap.size := World.block_lt_of_cell? _ _ hx0
    have zhy_W7 : u2 < W7.heap.size := World.block_lt_of_cell? _ _ hy0
    have zc_W7 : w.heap.size < W7.heap.size := World.block_lt_of_cell? _ _ c0
    have zx_W7 : w.heap.size + 1 < W7.heap.size := World.block_lt_of_cell? _ _ x0
    have zy_W7 : w.heap.size + 1 + 1 < W7.heap.size := World.block_lt_of_cell? _ _ y0
    have zd_W7 : w.heap.size + 1 + 1 + 1 < W7.heap.size := World.block_lt_of_cell? _ _ d0
    cases z
    · clear C3 C4
      go_wp2_with (first
        | ((with_reducible refine (R2.out _).mono ?_); rintro e w8 ⟨rfl, g8⟩
           replace hx0 := Kep.all g8 (a := ⟨u1, 0, none⟩) (v := .int .u32 x.k) hx0
           replace hx1 := Kep.all g8 (a := ⟨u1, 1, none⟩) (v := .int .i32 x.r) hx1
           replace hx2 := Kep.all g8 (a := ⟨u1, 2, none⟩) (v := .int .i32 x.ax) hx2
           replace hx3 := Kep.all g8 (a := ⟨u1, 3, none⟩) (v := .int .i32 x.ay) hx3
           replace hx4 := Kep.all g8 (a := ⟨u1, 4, none⟩) (v := .int .i32 x.m) hx4
           replace hx5 := Kep.all g8 (a := ⟨u1, 5, none⟩) (v := .int .i32 x.o) hx5
           replace hx6 := Kep.all g8 (a := ⟨u1, 6, none⟩) (v := .int .i32 x.px) hx6
           replace hx7 := Kep.all g8 (a := ⟨u1, 7, none⟩) (v := .int .i32 x.py) hx7
           replace hx8 := Kep.all g8 (a := ⟨u1, 8, none⟩) (v := .int .i32 ex) hx8
           replace hx9 := Kep.all g8 (a := ⟨u1, 9, none⟩) (v := .int .i32 ey) hx9
           replace hy0 := Kep.all g8 (a := ⟨u2, 0, none⟩) (v := .int .u32 y.k) hy0
           replace hy1 := Kep.all g8 (a := ⟨u2, 1, none⟩) (v := .int .i32 y.r) hy1
           replace hy2 := Kep.all g8 (a := ⟨u2, 2, none⟩) (v := .int .i32 y.ax) hy2
           replace hy3 := Kep.all g8 (a := ⟨u2, 3, none⟩) (v := .int .i32 y.ay) hy3
           replace hy4 := Kep.all g8 (a := ⟨u2, 4, none⟩) (v := .int .i32 y.m) hy4
           replace hy5 := Kep.all g8 (a := ⟨u2, 5, none⟩) (v := .int .i32 y.o) hy5
           replace hy6 := Kep.all g8 (a := ⟨u2, 6, none⟩) (v := .int .i32 y.px) hy6
           replace hy7 := Kep.all g8 (a := ⟨u2, 7, none⟩) (v := .int .i32 y.py) hy7
           replace hy8 := Kep.all g8 (a := ⟨u2, 8, none⟩) (v := .int .i32 fx) hy8
           replace hy9 := Kep.all g8 (a := ⟨u2, 9, none⟩) (v := .int .i32 fy) hy9
           replace c0 := Kep.all g8 (a := ⟨w.heap.size, 0, none⟩) (v := .int .u32 lo) c0
           replace c1 := Kep.all g8 (a := ⟨w.heap.size, 1, none⟩) (v := .int .u32 hi) c1
           replace c2 := Kep.all g8 (a := ⟨w.heap.size, 2, none⟩) (v := .int .i32 nx) c2
           replace c3 := Kep.all g8 (a := ⟨w.heap.size, 3, none⟩) (v := .int .i32 ny) c3
           replace c4 := Kep.all g8 (a := ⟨w.heap.size, 4, none⟩) (v := .int .i32 dp) c4
           replace x0 := Kep.all g8 (a := ⟨w.heap.size + 1, 0, none⟩) (v := .int .u32 x.k) x0
           replace x1 := Kep.all g8 (a := ⟨w.heap.size + 1, 1, none⟩) (v := .int .i32 x.r) x1
           replace x2 := Kep.all g8 (a := ⟨w.heap.size + 1, 2, none⟩) (v := .int .i32 x.ax) x2
           replace x3 := Kep.all g8 (a := ⟨w.heap.size + 1, 3, none⟩) (v := .int .i32 x.ay) x3
           replace x4 := Kep.all g8 (a := ⟨w.heap.size + 1, 4, none⟩) (v := .int .i32 x.m) x4
           replace x5 := Kep.all g8 (a := ⟨w.heap.size + 1, 5, none⟩) (v := .int .i32 x.o) x5
           replace x6 := Kep.all g8 (a := ⟨w.heap.size + 1, 6, none⟩) (v := .int .i32 x.px) x6
           replace x7 := Kep.all g8 (a := ⟨w.heap.size + 1, 7, none⟩) (v := .int .i32 x.py) x7
           replace x8 := Kep.all g8 (a := ⟨w.heap.size + 1, 8, none⟩) (v := .int .i32 x.vx) x8
           replace x9 := Kep.all g8 (a := ⟨w.heap.size + 1, 9, none⟩) (v := .int .i32 x.vy) x9
           replace y0 := Kep.all g8 (a := ⟨w.heap.size + 1 + 1, 0, none⟩) (v := .int .u32 y.k) y0
           replace y1 := Kep.all g8 (a := ⟨w.heap.size + 1 + 1, 1, none⟩) (v := .int .i32 y.r) y1
           replace y2 := Kep.all g8 (a := ⟨w.heap.size + 1 + 1, 2, none⟩) (v := .int .i32 y.ax) y2
           replace y3 := Kep.all g8 (a := ⟨w.heap.size + 1 + 1, 3, none⟩) (v := .int .i32 y.ay) y3
           replace y4 := Kep.all g8 (a := ⟨w.heap.size + 1 + 1, 4, none⟩) (v := .int .i32 y.m) y4
           replace y5 := Kep.all g8 (a := ⟨w.heap.size + 1 + 1, 5, none⟩) (v := .int .i32 y.o) y5
           replace y6 := Kep.all g8 (a := ⟨w.heap.size + 1 + 1, 6, none⟩) (v := .int .i32 y.px) y6
           replace y7 := Kep.all g8 (a := ⟨w.heap.size + 1 + 1, 7, none⟩) (v := .int .i32 y.py) y7
           replace y8 := Kep.all g8 (a := ⟨w.heap.size + 1 + 1, 8, none⟩) (v := .int .i32 y.vx) y8
           replace y9 := Kep.all g8 (a := ⟨w.heap.size + 1 + 1, 9, none⟩) (v := .int .i32 y.vy) y9
           replace d0 := Kep.all g8 (a := ⟨w.heap.size + 1 + 1 + 1, 0, none⟩) (v := .int .i32 dx) d0
           replace d1 := Kep.all g8 (a := ⟨w.heap.size + 1 + 1 + 1, 1, none⟩) (v := .int .i32 dy) d1
           replace gg := kep_next gg g8
           have zhx_w8 : u1 < w8.heap.size := World.block_lt_of_cell? _ _ hx0
           have zhy_w8 : u2 < w8.heap.size := World.block_lt_of_cell? _ _ hy0
           have zc_w8 : w.heap.size < w8.heap.size := World.block_lt_of_cell? _ _ c0
           have zx_w8 : w.heap.size + 1 < w8.heap.size := World.block_lt_of_cell? _ _ x0
           have zy_w8 : w.heap.size + 1 + 1 < w8.heap.size := World.block_lt_of_cell? _ _ y0
           have zd_w8 : w.heap.size + 1 + 1 + 1 < w8.heap.size := World.block_lt_of_cell? _ _ d0))
      go_ret
      exact ⟨rfl, gg⟩
    · replace C3 := C3.out rfl
      replace C4 := C4.out rfl
      go_wp2_with (first
        | ((with_reducible refine (R2.out _).mono ?_); rintro e w8 ⟨rfl, g8⟩
           replace hx0 := Kep.all g8 (a := ⟨u1, 0, none⟩) (v := .int .u32 x.k) hx0
           replace hx1 := Kep.all g8 (a := ⟨u1, 1, none⟩) (v := .int .i32 x.r) hx1
           replace hx2 := Kep.all g8 (a := ⟨u1, 2, none⟩) (v := .int .i32 x.ax) hx2
           replace hx3 := Kep.all g8 (a := ⟨u1, 3, none⟩) (v := .int .i32 x.ay) hx3
           replace hx4 := Kep.all g8 (a := ⟨u1, 4, none⟩) (v := .int .i32 x.m) hx4
           replace hx5 := Kep.all g8 (a := ⟨u1, 5, none⟩) (v := .int .i32 x.o) hx5
           replace hx6 := Kep.all g8 (a := ⟨u1, 6, none⟩) (v := .int .i32 x.px) hx6
           replace hx7 := Kep.all g8 (a := ⟨u1, 7, none⟩) (v := .int .i32 x.py) hx7
           replace hx8 := Kep.all g8 (a := ⟨u1, 8, none⟩) (v := .int .i32 ex) hx8
           replace hx9 := Kep.all g8 (a := ⟨u1, 9, none⟩) (v := .int .i32 ey) hx9
           replace hy0 := Kep.all g8 (a := ⟨u2, 0, none⟩) (v := .int .u32 y.k) hy0
           replace hy1 := Kep.all g8 (a := ⟨u2, 1, none⟩) (v := .int .i32 y.r) hy1
           replace hy2 := Kep.all g8 (a := ⟨u2, 2, none⟩) (v := .int .i32 y.ax) hy2
           replace hy3 := Kep.all g8 (a := ⟨u2, 3, none⟩) (v := .int .i32 y.ay) hy3
           replace hy4 := Kep.all g8 (a := ⟨u2, 4, none⟩) (v := .int .i32 y.m) hy4
           replace hy5 := Kep.all g8 (a := ⟨u2, 5, none⟩) (v := .int .i32 y.o) hy5
           replace hy6 := Kep.all g8 (a := ⟨u2, 6, none⟩) (v := .int .i32 y.px) hy6
           replace hy7 := Kep.all g8 (a := ⟨u2, 7, none⟩) (v := .int .i32 y.py) hy7
           replace hy8 := Kep.all g8 (a := ⟨u2, 8, none⟩) (v := .int .i32 fx) hy8
           replace hy9 := Kep.all g8 (a := ⟨u2, 9, none⟩) (v := .int .i32 fy) hy9
           replace c0 := Kep.all g8 (a := ⟨w.heap.size, 0, none⟩) (v := .int .u32 lo) c0
           replace c1 := Kep.all g8 (a := ⟨w.heap.size, 1, none⟩) (v := .int .u32 hi) c1
           replace c2 := Kep.all g8 (a := ⟨w.heap.size, 2, none⟩) (v := .int .i32 nx) c2
           replace c3 := Kep.all g8 (a := ⟨w.heap.size, 3, none⟩) (v := .int .i32 ny) c3
           replace c4 := Kep.all g8 (a := ⟨w.heap.size, 4, none⟩) (v := .int .i32 dp) c4
           replace x0 := Kep.all g8 (a := ⟨w.heap.size + 1, 0, none⟩) (v := .int .u32 x.k) x0
           replace x1 := Kep.all g8 (a := ⟨w.heap.size + 1, 1, none⟩) (v := .int .i32 x.r) x1
           replace x2 := Kep.all g8 (a := ⟨w.heap.size + 1, 2, none⟩) (v := .int .i32 x.ax) x2
           replace x3 := Kep.all g8 (a := ⟨w.heap.size + 1, 3, none⟩) (v := .int .i32 x.ay) x3
           replace x4 := Kep.all g8 (a := ⟨w.heap.size + 1, 4, none⟩) (v := .int .i32 x.m) x4
           replace x5 := Kep.all g8 (a := ⟨w.heap.size + 1, 5, none⟩) (v := .int .i32 x.o) x5
           replace x6 := Kep.all g8 (a := ⟨w.heap.size + 1, 6, none⟩) (v := .int .i32 x.px) x6
           replace x7 := Kep.all g8 (a := ⟨w.heap.size + 1, 7, none⟩) (v := .int .i32 x.py) x7
           replace x8 := Kep.all g8 (a := ⟨w.heap.size + 1, 8, none⟩) (v := .int .i32 x.vx) x8
           replace x9 := Kep.all g8 (a := ⟨w.heap.size + 1, 9, none⟩) (v := .int .i32 x.vy) x9
           replace y0 := Kep.all g8 (a := ⟨w.heap.size + 1 + 1, 0, none⟩) (v := .int .u32 y.k) y0
           replace y1 := Kep.all g8 (a := ⟨w.heap.size + 1 + 1, 1, none⟩) (v := .int .i32 y.r) y1
           replace y2 := Kep.all g8 (a := ⟨w.heap.size + 1 + 1, 2, none⟩) (v := .int .i32 y.ax) y2
           replace y3 := Kep.all g8 (a := ⟨w.heap.size + 1 + 1, 3, none⟩) (v := .int .i32 y.ay) y3
           replace y4 := Kep.all g8 (a := ⟨w.heap.size + 1 + 1, 4, none⟩) (v := .int .i32 y.m) y4
           replace y5 := Kep.all g8 (a := ⟨w.heap.size + 1 + 1, 5, none⟩) (v := .int .i32 y.o) y5
           replace y6 := Kep.all g8 (a := ⟨w.heap.size + 1 + 1, 6, none⟩) (v := .int .i32 y.px) y6
           replace y7 := Kep.all g8 (a := ⟨w.heap.size + 1 + 1, 7, none⟩) (v := .int .i32 y.py) y7
           replace y8 := Kep.all g8 (a := ⟨w.heap.size + 1 + 1, 8, none⟩) (v := .int .i32 y.vx) y8
           replace y9 := Kep.all g8 (a := ⟨w.heap.size + 1 + 1, 9, none⟩) (v := .int .i32 y.vy) y9
           replace d0 := Kep.all g8 (a := ⟨w.heap.size + 1 + 1 + 1, 0, none⟩) (v := .int .i32 dx) d0
           replace d1 := Kep.all g8 (a := ⟨w.heap.size + 1 + 1 + 1, 1, none⟩) (v := .int .i32 dy) d1
           replace gg := kep_next gg g8
           have zhx_w8 : u1 < w8.heap.size := World.block_lt_of_cell? _ _ hx0
           have zhy_w8 : u2 < w8.heap.size := World.block_lt_of_cell? _ _ hy0
           have zc_w8 : w.heap.size < w8.heap.size := World.block_lt_of_cell? _ _ c0
           have zx_w8 : w.heap.size + 1 < w8.heap.size := World.block_lt_of_cell? _ _ x0
           have zy_w8 : w.heap.size + 1 + 1 < w8.heap.size := World.block_lt_of_cell? _ _ y0
           have zd_w8 : w.heap.size + 1 + 1 + 1 < w8.heap.size := World.block_lt_of_cell? _ _ d0))
      refine wp_region_noPanic ?_
      refine wp_region_held_drew (S := (fun w' => w'.cell? ⟨u1, 0, none⟩ = some (.int .u32 x.k) ∧ w'.cell? ⟨u1, 1, none⟩ = some (.int .i32 x.r) ∧ w'.cell? ⟨u1, 2, none⟩ = some (.int .i32 x.ax) ∧ w'.cell? ⟨u1, 3, none⟩ = some (.int .i32 x.ay) ∧ w'.cell? ⟨u1, 4, none⟩ = some (.int .i32 x.m) ∧ w'.cell? ⟨u1, 5, none⟩ = some (.int .i32 x.o) ∧ w'.cell? ⟨u1, 6, none⟩ = some (.int .i32 x.px) ∧ w'.cell? ⟨u1, 7, none⟩ = some (.int .i32 x.py) ∧ w'.cell? ⟨u1, 8, none⟩ = some (.int .i32 ex) ∧ w'.cell? ⟨u1, 9, none⟩ = some (.int .i32 ey) ∧ w'.cell? ⟨u2, 0, none⟩ = some (.int .u32 y.k) ∧ w'.cell? ⟨u2, 1, none⟩ = some (.int .i32 y.r) ∧ w'.cell? ⟨u2, 2, none⟩ = some (.int .i32 y.ax) ∧ w'.cell? ⟨u2, 3, none⟩ = some (.int .i32 y.ay) ∧ w'.cell? ⟨u2, 4, none⟩ = some (.int .i32 y.m) ∧ w'.cell? ⟨u2, 5, none⟩ = some (.int .i32 y.o) ∧ w'.cell? ⟨u2, 6, none⟩ = some (.int .i32 y.px) ∧ w'.cell? ⟨u2, 7, none⟩ = some (.int .i32 y.py) ∧ w'.cell? ⟨u2, 8, none⟩ = some (.int .i32 fx) ∧ w'.cell? ⟨u2, 9, none⟩ = some (.int .i32 fy) ∧ w'.cell? ⟨w.heap.size, 0, none⟩ = some (.int .u32 lo) ∧ w'.cell? ⟨w.heap.size, 1, none⟩ = some (.int .u32 hi) ∧ w'.cell? ⟨w.heap.size, 2, none⟩ = some (.int .i32 nx) ∧ w'.cell? ⟨w.heap.size, 3, none⟩ = some (.int .i32 ny) ∧ w'.cell? ⟨w.heap.size, 4, none⟩ = some (.int .i32 dp) ∧ w'.cell? ⟨w.heap.size + 1, 0, none⟩ = some (.int .u32 x.k) ∧ w'.cell? ⟨w.heap.size + 1, 1, none⟩ = some (.int .i32 x.r) ∧ w'.cell? ⟨w.heap.size + 1, 2, none⟩ = some (.int .i32 x.ax) ∧ w'.cell? ⟨w.heap.size + 1, 3, none⟩ = some (.int .i32 x.ay) ∧ w'.cell? ⟨w.heap.size + 1, 4, none⟩ = some (.int .i32 x.m) ∧ w'.cell? ⟨w.heap.size + 1, 5, none⟩ = some (.int .i32 x.o) ∧ w'.cell? ⟨w.heap.size + 1, 6, none⟩ = some (.int .i32 x.px) ∧ w'.cell? ⟨w.heap.size + 1, 7, none⟩ = some (.int .i32 x.py) ∧ w'.cell? ⟨w.heap.size + 1, 8, none⟩ = some (.int .i32 x.vx) ∧ w'.cell? ⟨w.heap.size + 1, 9, none⟩ = some (.int .i32 x.vy) ∧ w'.cell? ⟨w.heap.size + 1 + 1, 0, none⟩ = some (.int .u32 y.k) ∧ w'.cell? ⟨w.heap.size + 1 + 1, 1, none⟩ = some (.int .i32 y.r) ∧ w'.cell? ⟨w.heap.size + 1 + 1, 2, none⟩ = some (.int .i32 y.ax) ∧ w'.cell? ⟨w.heap.size + 1 + 1, 3, none⟩ = some (.int .i32 y.ay) ∧ w'.cell? ⟨w.heap.size + 1 + 1, 4, none⟩ = some (.int .i32 y.m) ∧ w'.cell? ⟨w.heap.size + 1 + 1, 5, none⟩ = some (.int .i32 y.o) ∧ w'.cell? ⟨w.heap.size + 1 + 1, 6, none⟩ = some (.int .i32 y.px) ∧ w'.cell? ⟨w.heap.size + 1 + 1, 7, none⟩ = some (.int .i32 y.py) ∧ w'.cell? ⟨w.heap.size + 1 + 1, 8, none⟩ = some (.int .i32 y.vx) ∧ w'.cell? ⟨w.heap.size + 1 + 1, 9, none⟩ = some (.int .i32 y.vy) ∧ w'.cell? ⟨w.heap.size + 1 + 1 + 1, 0, none⟩ = some (.int .i32 dx) ∧ w'.cell? ⟨w.heap.size + 1 + 1 + 1, 1, none⟩ = some (.int .i32 dy) ∧ Kep w.heap.size w w')) (by kernel_rfl) (⟨by rw [World.cell?_drew]; exact hx0, by rw [World.cell?_drew]; exact hx1, by rw [World.cell?_drew]; exact hx2, by rw [World.cell?_drew]; exact hx3, by rw [World.cell?_drew]; exact hx4, by rw [World.cell?_drew]; exact hx5, by rw [World.cell?_drew]; exact hx6, by rw [World.cell?_drew]; exact hx7, by rw [World.cell?_drew]; exact hx8, by rw [World.cell?_drew]; exact hx9, by rw [World.cell?_drew]; exact hy0, by rw [World.cell?_drew]; exact hy1, by rw [World.cell?_drew]; exact hy2, by rw [World.cell?_drew]; exact hy3, by rw [World.cell?_drew]; exact hy4, by rw [World.cell?_drew]; exact hy5, by rw [World.cell?_drew]; exact hy6, by rw [World.cell?_drew]; exact hy7, by rw [World.cell?_drew]; exact hy8, by rw [World.cell?_drew]; exact hy9, by rw [World.cell?_drew]; exact c0, by rw [World.cell?_drew]; exact c1, by rw [World.cell?_drew]; exact c2, by rw [World.cell?_drew]; exact c3, by rw [World.cell?_drew]; exact c4, by rw [World.cell?_drew]; exact x0, by rw [World.cell?_drew]; exact x1, by rw [World.cell?_drew]; exact x2, by rw [World.cell?_drew]; exact x3, by rw [World.cell?_drew]; exact x4, by rw [World.cell?_drew]; exact x5, by rw [World.cell?_drew]; exact x6, by rw [World.cell?_drew]; exact x7, by rw [World.cell?_drew]; exact x8, by rw [World.cell?_drew]; exact x9, by rw [World.cell?_drew]; exact y0, by rw [World.cell?_drew]; exact y1, by rw [World.cell?_drew]; exact y2, by rw [World.cell?_drew]; exact y3, by rw [World.cell?_drew]; exact y4, by rw [World.cell?_drew]; exact y5, by rw [World.cell?_drew]; exact y6, by rw [World.cell?_drew]; exact y7, by rw [World.cell?_drew]; exact y8, by rw [World.cell?_drew]; exact y9, by rw [World.cell?_drew]; exact d0, by rw [World.cell?_drew]; exact d1, kep_drew gg⟩) (fun hH => ?_)
      refine rtk 0 (oi := ⟨some 68, .load 28 (.tmp 4), _, _, _, none⟩) (v := ?_) rfl ?_ hH ?_
      rotate_left
      · (intro w hSw; (try dsimp only at hSw); go_simp; (try with_reducible rfl))
      refine rtk 1 (oi := ⟨some 69, .load 30 (.tmp 9), _, _, _, none⟩) (v := ?_) rfl ?_ hH ?_
      rotate_left
      · (intro w hSw; (try dsimp only at hSw); go_simp; (try with_reducible rfl))
      refine rtk 2 (oi := ⟨some 70, .load 30 (.tmp 10), _, _, _, none⟩) (v := ?_) rfl ?_ hH ?_
      rotate_left
      · (intro w hSw; (try dsimp only at hSw); go_simp; (try with_reducible rfl))
      refine rtk 4 (oi := ⟨some 72, .load 28 (.tmp 4), _, _, _, none⟩) (v := ?_) rfl ?_ hH ?_
      rotate_left
      · (intro w hSw; (try dsimp only at hSw); go_simp; (try with_reducible rfl))
      try simp only [Act.put, List.setIfInBounds_toArray, List.set_cons_zero, List.set_cons_succ]
      refine rtk 5 (oi := ⟨some 73, .load 30 (.tmp 5), _, _, _, none⟩) (v := ?_) rfl ?_ hH ?_
      rotate_left
      · (intro w hSw; (try dsimp only at hSw); go_simp; (try with_reducible rfl))
      refine rtk 6 (oi := ⟨some 74, .load 30 (.tmp 6), _, _, _, none⟩) (v := ?_) rfl ?_ hH ?_
      rotate_left
      · (intro w hSw; (try dsimp only at hSw); go_simp; (try with_reducible rfl))
      try simp only [Act.put, List.setIfInBounds_toArray, List.set_cons_zero, List.set_cons_succ]
      refine wpAnyH_ready (rs := [3]) (by kernel_rfl) (by simp) ?_
      refine AllReadyH.cons (o := ⟨some 71, .call { callee := .value (.func 10), args := #[.tmp 68, .tmp 69, .tmp 70], argTypes := #[28, 30, 30] }, _, _, _, none⟩) rfl (fun K hK => ?_) AllReadyH.nil
      go_simp
      (with_reducible refine (C3.out _).mono ?_); rintro e v8_3 ⟨rfl, g⟩
      refine hK.out _ _ (by (try dsimp only); (go_split_ands; exact ⟨Kep.all g (by assumption), Kep.all g (by assumption), Kep.all g (by assumption), Kep.all g (by assumption), Kep.all g (by assumption), Kep.all g (by assumption), Kep.all g (by assumption), Kep.all g (by assumption), Kep.all g (by assumption), Kep.all g (by assumption), Kep.all g (by assumption), Kep.all g (by assumption), Kep.all g (by assumption), Kep.all g (by assumption), Kep.all g (by assumption), Kep.all g (by assumption), Kep.all g (by assumption), Kep.all g (by assumption), Kep.all g (by assumption), Kep.all g (by assumption), Kep.all g (by assumption), Kep.all g (by assumption), Kep.all g (by assumption), Kep.all g (by assumption), Kep.all g (by assumption), Kep.all g (by assumption), Kep.all g (by assumption), Kep.all g (by assumption), Kep.all g (by assumption), Kep.all g (by assumption), Kep.all g (by assumption), Kep.all g (by assumption), Kep.all g (by assumption), Kep.all g (by assumption), Kep.all g (by assumption), Kep.all g (by assumption), Kep.all g (by assumption), Kep.all g (by assumption), Kep.all g (by assumption), Kep.all g (by assumption), Kep.all g (by assumption), Kep.all g (by assumption), Kep.all g (by assumption), Kep.all g (by assumption), Kep.all g (by assumption), Kep.all g (by assumption), Kep.all g (by assumption), kep_next (by assumption) g⟩)) (fun hH2 => ?_)
      clear hK K hH; have hH := hH2; clear hH2
      try simp only [Act.put, List.setIfInBounds_toArray, List.set_cons_zero, List.set_cons_succ]
      refine wpAnyH_ready (rs := [7]) (by kernel_rfl) (by simp) ?_
      refine AllReadyH.cons (o := ⟨some 75, .call { callee := .value (.func 10), args := #[.tmp 72, .tmp 73, .tmp 74], argTypes := #[28, 30, 30] }, _, _, _, none⟩) rfl (fun K hK => ?_) AllReadyH.nil
      go_simp
      (with_reducible refine (C1.out _).mono ?_); rintro e v8_7 ⟨rfl, g⟩
      refine hK.out _ _ (by (try dsimp only); (go_split_ands; exact ⟨Kep.all g (by assumption), Kep.all g (by assumption), Kep.all g (by assumption), Kep.all g (by assumption), Kep.all g (by assumption), Kep.all g (by assumption), Kep.all g (by assumption), Kep.all g (by assumption), Kep.all g (by assumption), Kep.all g (by assumption), Kep.all g (by assumption), Kep.all g (by assumption), Kep.all g (by assumption), Kep.all g (by assumption), Kep.all g (by assumption), Kep.all g (by assumption), Kep.all g (by assumption), Kep.all g (by assumption), Kep.all g (by assumption), Kep.all g (by assumption), Kep.all g (by assumption), Kep.all g (by assumption), Kep.all g (by assumption), Kep.all g (by assumption), Kep.all g (by assumption), Kep.all g (by assumption), Kep.all g (by assumption), Kep.all g (by assumption), Kep.all g (by assumption), Kep.all g (by assumption), Kep.all g (by assumption), Kep.all g (by assumption), Kep.all g (by assumption), Kep.all g (by assumption), Kep.all g (by assumption), Kep.all g (by assumption), Kep.all g (by assumption), Kep.all g (by assumption), Kep.all g (by assumption), Kep.all g (by assumption), Kep.all g (by assumption), Kep.all g (by assumption), Kep.all g (by assumption), Kep.all g (by assumption), Kep.all g (by assumption), Kep.all g (by assumption), Kep.all g (by assumption), kep_next (by assumption) g⟩)) (fun hH2 => ?_)
      clear hK K hH; have hH := hH2; clear hH2
      refine rtk 8 (oi := ⟨some 76, .binOp .eql 2 (.tmp 71) (.tmp 75) 2, _, _, _, none⟩) (v := ?_) rfl ?_ hH ?_
      rotate_left
      · (intro w hSw; (try dsimp only at hSw); go_simp; (try with_reducible rfl))
      refine rtk 9 (oi := ⟨some 77, .move (.tmp 76), _, _, _, none⟩) (v := ?_) rfl ?_ hH ?_
      rotate_left
      · (intro w hSw; (try dsimp only at hSw); go_simp; (try with_reducible rfl))
      try simp only [Act.put, List.setIfInBounds_toArray, List.set_cons_zero, List.set_cons_succ]
      refine rtk 10 (oi := ⟨some 78, .load 28 (.tmp 4), _, _, _, some (9, true)⟩) (v := ?_) rfl ?_ hH ?_
      rotate_left
      · (intro w hSw; (try dsimp only at hSw); go_simp; (try with_reducible rfl))
      try simp only [Act.put, List.setIfInBounds_toArray, List.set_cons_zero, List.set_cons_succ]
      refine rtk 11 (oi := ⟨some 79, .load 30 (.tmp 9), _, _, _, some (9, true)⟩) (v := ?_) rfl ?_ hH ?_
      rotate_left
      · (intro w hSw; (try dsimp only at hSw); go_simp; (try with_reducible rfl))
      try simp only [Act.put, List.setIfInBounds_toArray, List.set_cons_zero, List.set_cons_succ]
      refine rtk 12 (oi := ⟨some 80, .load 30 (.tmp 10), _, _, _, some (9, true)⟩) (v := ?_) rfl ?_ hH ?_
      rotate_left
      · (intro w hSw; (try dsimp only at hSw); go_simp; (try with_reducible rfl))
      try simp only [Act.put, List.setIfInBounds_toArray, List.set_cons_zero, List.set_cons_succ]
      refine rtk 14 (oi := ⟨some 82, .load 28 (.tmp 4), _, _, _, some (9, true)⟩) (v := ?_) rfl ?_ hH ?_
      rotate_left
      · (intro w hSw; (try dsimp only at hSw); go_simp; (try with_reducible rfl))
      try simp only [Act.put, List.setIfInBounds_toArray, List.set_cons_zero, List.set_cons_succ]
      refine rtk 15 (oi := ⟨some 83, .load 30 (.tmp 5), _, _, _, some (9, true)⟩) (v := ?_) rfl ?_ hH ?_
      rotate_left
      · (intro w hSw; (try dsimp only at hSw); go_simp; (try with_reducible rfl))
      try simp only [Act.put, List.setIfInBounds_toArray, List.set_cons_zero, List.set_cons_succ]
      refine rtk 16 (oi := ⟨some 84, .load 30 (.tmp 6), _, _, _, some (9, true)⟩) (v := ?_) rfl ?_ hH ?_
      rotate_left
      · (intro w hSw; (try dsimp only at hSw); go_simp; (try with_reducible rfl))
      try simp only [Act.put, List.setIfInBounds_toArray, List.set_cons_zero, List.set_cons_succ]
      refine wpAnyH_ready (rs := [13]) (by kernel_rfl) (by simp) ?_
      refine AllReadyH.cons (o := ⟨some 81, .call { callee := .value (.func 13), args := #[.tmp 78, .tmp 79, .tmp 80], argTypes := #[28, 30, 30] }, _, _, _, some (9, true)⟩) rfl (fun K hK => ?_) AllReadyH.nil
      go_simp
      (with_reducible refine (C4.out _).mono ?_); rintro e v8_13 ⟨rfl, g⟩
      refine hK.out _ _ (by (try dsimp only); (go_split_ands; exact ⟨Kep.all g (by assumption), Kep.all g (by assumption), Kep.all g (by assumption), Kep.all g (by assumption), Kep.all g (by assumption), Kep.all g (by assumption), Kep.all g (by assumption), Kep.all g (by assumption), Kep.all g (by assumption), Kep.all g (by assumption), Kep.all g (by assumption), Kep.all g (by assumption), Kep.all g (by assumption), Kep.all g (by assumption), Kep.all g (by assumption), Kep.all g (by assumption), Kep.all g (by assumption), Kep.all g (by assumption), Kep.all g (by assumption), Kep.all g (by assumption), Kep.all g (by assumption), Kep.all g (by assumption), Kep.all g (by assumption), Kep.all g (by assumption), Kep.all g (by assumption), Kep.all g (by assumption), Kep.all g (by assumption), Kep.all g (by assumption), Kep.all g (by assumption), Kep.all g (by assumption), Kep.all g (by assumption), Kep.all g (by assumption), Kep.all g (by assumption), Kep.all g (by assumption), Kep.all g (by assumption), Kep.all g (by assumption), Kep.all g (by assumption), Kep.all g (by assumption), Kep.all g (by assumption), Kep.all g (by assumption), Kep.all g (by assumption), Kep.all g (by assumption), Kep.all g (by assumption), Kep.all g (by assumption), Kep.all g (by assumption), Kep.all g (by assumption), Kep.all g (by assumption), kep_next (by assumption) g⟩)) (fun hH2 => ?_)
      clear hK K hH; have hH := hH2; clear hH2
      try simp only [Act.put, List.setIfInBounds_toArray, List.set_cons_zero, List.set_cons_succ]
      refine wpAnyH_ready (rs := [17]) (by kernel_rfl) (by simp) ?_
      refine AllReadyH.cons (o := ⟨some 85, .call { callee := .value (.func 13), args := #[.tmp 82, .tmp 83, .tmp 84], argTypes := #[28, 30, 30] }, _, _, _, some (9, true)⟩) rfl (fun K hK => ?_) AllReadyH.nil
      go_simp
      (with_reducible refine (C2.out _).mono ?_); rintro e v8_17 ⟨rfl, g⟩
      refine hK.out _ _ (by (try dsimp only); (go_split_ands; exact ⟨Kep.all g (by assumption), Kep.all g (by assumption), Kep.all g (by assumption), Kep.all g (by assumption), Kep.all g (by assumption), Kep.all g (by assumption), Kep.all g (by assumption), Kep.all g (by assumption), Kep.all g (by assumption), Kep.all g (by assumption), Kep.all g (by assumption), Kep.all g (by assumption), Kep.all g (by assumption), Kep.all g (by assumption), Kep.all g (by assumption), Kep.all g (by assumption), Kep.all g (by assumption), Kep.all g (by assumption), Kep.all g (by assumption), Kep.all g (by assumption), Kep.all g (by assumption), Kep.all g (by assumption), Kep.all g (by assumption), Kep.all g (by assumption), Kep.all g (by assumption), Kep.all g (by assumption), Kep.all g (by assumption), Kep.all g (by assumption), Kep.all g (by assumption), Kep.all g (by assumption), Kep.all g (by assumption), Kep.all g (by assumption), Kep.all g (by assumption), Kep.all g (by assumption), Kep.all g (by assumption), Kep.all g (by assumption), Kep.all g (by assumption), Kep.all g (by assumption), Kep.all g (by assumption), Kep.all g (by assumption), Kep.all g (by assumption), Kep.all g (by assumption), Kep.all g (by assumption), Kep.all g (by assumption), Kep.all g (by assumption), Kep.all g (by assumption), Kep.all g (by assumption), kep_next (by assumption) g⟩)) (fun hH2 => ?_)
      clear hK K hH; have hH := hH2; clear hH2
      try simp only [Act.put, List.setIfInBounds_toArray, List.set_cons_zero, List.set_cons_succ]
      refine rtk 18 (oi := ⟨some 86, .binOp .eql 2 (.tmp 81) (.tmp 85) 2, _, _, _, some (9, true)⟩) (v := ?_) rfl ?_ hH ?_
      rotate_left
      · (intro w hSw; (try dsimp only at hSw); go_simp; (try with_reducible rfl))
      refine rtk 19 (oi := ⟨some 87, .pick (.tmp 77) (.tmp 86) (.const (Value.bool false)), _, _, _, none⟩) (v := ?_) rfl ?_ hH ?_
      rotate_left
      · (intro w hSw; (try dsimp only at hSw); go_simp; (try with_reducible rfl))
      refine rtk 20 (oi := ⟨some 8, .assign (.tmp 87), _, _, _, none⟩) (v := ?_) rfl ?_ hH ?_
      rotate_left
      · (intro w hSw; (try dsimp only at hSw); go_simp; (try with_reducible rfl))
      try simp only [Act.put, List.setIfInBounds_toArray, List.set_cons_zero, List.set_cons_succ]
      refine wpAnyH_done (by kernel_rfl) ?_ _
      refine NoPanic.normal ?_
      clear hx0 hx1 hx2 hx3 hx4 hx5 hx6 hx7 hx8 hx9 hy0 hy1 hy2 hy3 hy4 hy5 hy6 hy7 hy8 hy9 c0 c1 c2 c3 c4 x0 x1 x2 x3 x4 x5 x6 x7 x8 x9 y0 y1 y2 y3 y4 y5 y6 y7 y8 y9 d0 d1 gg
      obtain ⟨hx0, hx1, hx2, hx3, hx4, hx5, hx6, hx7, hx8, hx9, hy0, hy1, hy2, hy3, hy4, hy5, hy6, hy7, hy8, hy9, c0, c1, c2, c3, c4, x0, x1, x2, x3, x4, x5, x6, x7, x8, x9, y0, y1, y2, y3, y4, y5, y6, y7, y8, y9, d0, d1, gg⟩ := hH
      go_wp2_with fail
      go_ret
      exact ⟨rfl, gg⟩
theorem fr_ap {nx ny dx dy : Int} (x y x' y' : Bd) (h1 : x'.vx = x.vx + dx ∧ x'.vy = x.vy + dy) (h2 : y'.vx = y.vx + dx ∧ y'.vy = y.vy + dy) : apI nx ny x' y' = apI nx ny x y := by
  unfold apI spI
  rw [h1.1, h1.2, h2.1, h2.2]
  have e1 : y.vx + dx - (x.vx + dx) = y.vx - x.vx := by omega
  have e2 : y.vy + dy - (x.vy + dy) = y.vy - x.vy := by omega
  rw [e1, e2]
/-- The law ImpulseFrames. -/
theorem ifl_law (O : IOps) (AW : IAwake) (lo hi nx ny dp dx dy : Int) (x y : Bd) (w : World) : Calls Try.prog 6 #[.agg #[.int .u32 lo, .int .u32 hi, .int .i32 nx, .int .i32 ny, .int .i32 dp], .agg #[.int .u32 x.k, .int .i32 x.r, .int .i32 x.ax, .int .i32 x.ay, .int .i32 x.m, .int .i32 x.o, .int .i32 x.px, .int .i32 x.py, .int .i32 x.vx, .int .i32 x.vy], .agg #[.int .u32 y.k, .int .i32 y.r, .int .i32 y.ax, .int .i32 y.ay, .int .i32 y.m, .int .i32 y.o, .int .i32 y.px, .int .i32 y.py, .int .i32 y.vx, .int .i32 y.vy], .agg #[.int .i32 dx, .int .i32 dy]] w fun e w' => e = .returned (.bool true) ∧ Kep w.heap.size w w' := by
  cases hr : imB nx ny x y
  · exact ifl_b1 (Lib.hid AW) lo hi nx ny dp dx dy x y (Lib.hid (jri lo hi nx ny dp x y false hr)) w
  · have RR := Lib.hid (jri lo hi nx ny dp x y true hr)
    by_cases i1 : -16777216 ≤ dx ∧ dx ≤ 16777216
    · have I1 := Lib.hid (rin (n := dx) (l := 16777216) (c := true) (by decide) (by decide) (decide_eq_true i1))
      by_cases i2 : -16777216 ≤ dy ∧ dy ≤ 16777216
      · have I2 := Lib.hid (rin (n := dy) (l := 16777216) (c := true) (by decide) (by decide) (decide_eq_true i2))
        obtain ⟨hx, hy, h1, h2⟩ := imB_iff.1 hr
        have vx := Vb.of hx
        have vy := Vb.of hy
        obtain ⟨_, _, _, _, b1, b2, b3, b4⟩ := vx
        obtain ⟨_, _, _, _, c1, c2, c3, c4⟩ := vy
        obtain ⟨x', hx'⟩ : ∃ z : Bd, z = { x with vx := x.vx + dx, vy := x.vy + dy } := ⟨_, rfl⟩
        obtain ⟨y', hy'⟩ : ∃ z : Bd, z = { y with vx := y.vx + dx, vy := y.vy + dy } := ⟨_, rfl⟩
        have ea : apI nx ny x' y' = apI nx ny x y := fr_ap (dx := dx) (dy := dy) x y x' y' (by rw [hx']; exact ⟨rfl, rfl⟩) (by rw [hy']; exact ⟨rfl, rfl⟩)
        have es : stI nx ny x' y' = stI nx ny x y := by
          unfold stI
          rw [ea, hx', hy']
          rfl
        have R2 := jri lo hi nx ny dp x' y' _ rfl
        have C3 : imB nx ny x' y' = true → IAp lo hi nx ny dp x' y' (apI nx ny x y) := fun h => by
          obtain ⟨k1, k2, _, _⟩ := imB_iff.1 h
          rw [← ea]
          exact O.appr k1 k2 h1 h2
        have C4 : imB nx ny x' y' = true → ISt lo hi nx ny dp x' y' (stI nx ny x y) := fun h => by
          obtain ⟨k1, k2, _, _⟩ := imB_iff.1 h
          rw [← es]
          exact O.str k1 k2 h1 h2
        generalize imB nx ny x' y' = z at *
        clear ea es
        subst hx' hy'
        exact ifl_main (Lib.hid AW) lo hi nx ny dp dx dy (x.vx + dx) (x.vy + dy) (y.vx + dx) (y.vy + dy) _ _ x y z RR I1 I2 (by rw [IntKind.wrap_i32]; omega) (by rw [IntKind.wrap_i32]; omega) (by rw [IntKind.wrap_i32]; omega) (by rw [IntKind.wrap_i32]; omega) (Lib.hid R2) (Lib.hid (O.appr hx hy h1 h2)) (Lib.hid (O.str hx hy h1 h2)) (fun h => Lib.hid (C3 h)) (fun h => Lib.hid (C4 h)) w
      · exact ifl_b3 (Lib.hid AW) lo hi nx ny dp dx dy x y RR I1 (Lib.hid (rin (n := dy) (l := 16777216) (c := false) (by decide) (by decide) (decide_eq_false i2))) w
    · exact ifl_b2 (Lib.hid AW) lo hi nx ny dp dx dy x y RR (Lib.hid (rin (n := dx) (l := 16777216) (c := false) (by decide) (by decide) (decide_eq_false i1))) w
end Go.Proofs.Ytnmlknjjbonenaa
