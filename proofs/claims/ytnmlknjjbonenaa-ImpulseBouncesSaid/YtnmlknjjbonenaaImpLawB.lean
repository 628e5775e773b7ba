/-
  Package impulse: the law ImpulseBounces.
-/
import Derived.Test.YtnmlknjjbonenaaImpCon
import Derived.Deep.DeepCutAuto
import Derived.Deep.QuietTactic
import Derived.BigQuiet
namespace Go.Proofs.Ytnmlknjjbonenaa
open Go.RowKit Go.Lib

set_option maxRecDepth 100000 in
set_option maxHeartbeats 2000000 in
theorem ibl_b1 (AW : Hid IAwake) (lo hi nx ny dp o : Int) (x y : Bd) (RR : Hid (JRi lo hi nx ny dp x y false)) (w : World) : Calls Try.prog 7 #[.agg #[.int .u32 lo, .int .u32 hi, .int .i32 nx, .int .i32 ny, .int .i32 dp], .agg #[.int .u32 x.k, .int .i32 x.r, .int .i32 x.ax, .int .i32 x.ay, .int .i32 x.m, .int .i32 x.o, .int .i32 x.px, .int .i32 x.py, .int .i32 x.vx, .int .i32 x.vy], .agg #[.int .u32 y.k, .int .i32 y.r, .int .i32 y.ax, .int .i32 y.ay, .int .i32 y.m, .int .i32 y.o, .int .i32 y.px, .int .i32 y.py, .int .i32 y.vx, .int .i32 y.vy], .int .i32 o] w fun e w' => e = .returned (.bool true) ∧ Kep w.heap.size w w' := by
  go_enter Try.func7, Try.ntmps7
  go_wp2_with (first
    | ((with_reducible refine (AW.out _).mono ?_); rintro e w1 ⟨rfl, g1⟩
       first
         | (replace gg := kep_next gg g1)
         | (have c0 := Kep.all g1 (a := ⟨w.heap.size, 0, none⟩) (v := .int .u32 lo) (by (repeat (first | rw [World.cell?_drew] | rw [World.cell?_alloc_past _ _ _ (by first | (simp; done) | (simp; omega))])); rw [World.cell?_alloc_at _ _ _ _ (by simp)]; rfl)
            have c1 := Kep.all g1 (a := ⟨w.heap.size, 1, none⟩) (v := .int .u32 hi) (by (repeat (first | rw [World.cell?_drew] | rw [World.cell?_alloc_past _ _ _ (by first | (simp; done) | (simp; omega))])); rw [World.cell?_alloc_at _ _ _ _ (by simp)]; rfl)
            have c2 := Kep.all g1 (a := ⟨w.heap.size, 2, none⟩) (v := .int .i32 nx) (by (repeat (first | rw [World.cell?_drew] | rw [World.cell?_alloc_past _ _ _ (by first | (simp; done) | (simp; omega))])); rw [World.cell?_alloc_at _ _ _ _ (by simp)]; rfl)
            have c3 := Kep.all g1 (a := ⟨w.heap.size, 3, none⟩) (v := .int .i32 ny) (by (repeat (first | rw [World.cell?_drew] | rw [World.cell?_alloc_past _ _ _ (by first | (simp; done) | (simp; omega))])); rw [World.cell?_alloc_at _ _ _ _ (by simp)]; rfl)
            have c4 := Kep.all g1 (a := ⟨w.heap.size, 4, none⟩) (v := .int .i32 dp) (by (repeat (first | rw [World.cell?_drew] | rw [World.cell?_alloc_past _ _ _ (by first | (simp; done) | (simp; omega))])); rw [World.cell?_alloc_at _ _ _ _ (by simp)]; rfl)
            have x0 := Kep.all g1 (a := ⟨w.heap.size + 1, 0, none⟩) (v := .int .u32 x.k) (by (repeat (first | rw [World.cell?_drew] | rw [World.cell?_alloc_past _ _ _ (by first | (simp; done) | (simp; omega))])); rw [World.cell?_alloc_at _ _ _ _ (by simp)]; rfl)
            have x1 := Kep.all g1 (a := ⟨w.heap.size + 1, 1, none⟩) (v := .int .i32 x.r) (by (repeat (first | rw [World.cell?_drew] | rw [World.cell?_alloc_past _ _ _ (by first | (simp; done) | (simp; omega))])); rw [World.cell?_alloc_at _ _ _ _ (by simp)]; rfl)
            have x2 := Kep.all g1 (a := ⟨w.heap.size + 1, 2, none⟩) (v := .int .i32 x.ax) (by (repeat (first | rw [World.cell?_drew] | rw [World.cell?_alloc_past _ _ _ (by first | (simp; done) | (simp; omega))])); rw [World.cell?_alloc_at _ _ _ _ (by simp)]; rfl)
            have x3 := Kep.all g1 (a := ⟨w.heap.size + 1, 3, none⟩) (v := .int .i32 x.ay) (by (repeat (first | rw [World.cell?_drew] | rw [World.cell?_alloc_past _ _ _ (by first | (simp; done) | (simp; omega))])); rw [World.cell?_alloc_at _ _ _ _ (by simp)]; rfl)
            have x4 := Kep.all g1 (a := ⟨w.heap.size + 1, 4, none⟩) (v := .int .i32 x.m) (by (repeat (first | rw [World.cell?_drew] | rw [World.cell?_alloc_past _ _ _ (by first | (simp; done) | (simp; omega))])); rw [World.cell?_alloc_at _ _ _ _ (by simp)]; rfl)
            have x5 := Kep.all g1 (a := ⟨w.heap.size + 1, 5, none⟩) (v := .int .i32 x.o) (by (repeat (first | rw [World.cell?_drew] | rw [World.cell?_alloc_past _ _ _ (by first | (simp; done) | (simp; omega))])); rw [World.cell?_alloc_at _ _ _ _ (by simp)]; rfl)
            have x6 := Kep.all g1 (a := ⟨w.heap.size + 1, 6, none⟩) (v := .int .i32 x.px) (by (repeat (first | rw [World.cell?_drew] | rw [World.cell?_alloc_past _ _ _ (by first | (simp; done) | (simp; omega))])); rw [World.cell?_alloc_at _ _ _ _ (by simp)]; rfl)
            have x7 := Kep.all g1 (a := ⟨w.heap.size + 1, 7, none⟩) (v := .int .i32 x.py) (by (repeat (first | rw [World.cell?_drew] | rw [World.cell?_alloc_past _ _ _ (by first | (simp; done) | (simp; omega))])); rw [World.cell?_alloc_at _ _ _ _ (by simp)]; rfl)
            have x8 := Kep.all g1 (a := ⟨w.heap.size + 1, 8, none⟩) (v := .int .i32 x.vx) (by (repeat (first | rw [World.cell?_drew] | rw [World.cell?_alloc_past _ _ _ (by first | (simp; done) | (simp; omega))])); rw [World.cell?_alloc_at _ _ _ _ (by simp)]; rfl)
            have x9 := Kep.all g1 (a := ⟨w.heap.size + 1, 9, none⟩) (v := .int .i32 x.vy) (by (repeat (first | rw [World.cell?_drew] | rw [World.cell?_alloc_past _ _ _ (by first | (simp; done) | (simp; omega))])); rw [World.cell?_alloc_at _ _ _ _ (by simp)]; rfl)
            have y0 := Kep.all g1 (a := ⟨w.heap.size + 1 + 1, 0, none⟩) (v := .int .u32 y.k) (by (repeat (first | rw [World.cell?_drew] | rw [World.cell?_alloc_past _ _ _ (by first | (simp; done) | (simp; omega))])); rw [World.cell?_alloc_at _ _ _ _ (by simp)]; rfl)
            have y1 := Kep.all g1 (a := ⟨w.heap.size + 1 + 1, 1, none⟩) (v := .int .i32 y.r) (by (repeat (first | rw [World.cell?_drew] | rw [World.cell?_alloc_past _ _ _ (by first | (simp; done) | (simp; omega))])); rw [World.cell?_alloc_at _ _ _ _ (by simp)]; rfl)
            have y2 := Kep.all g1 (a := ⟨w.heap.size + 1 + 1, 2, none⟩) (v := .int .i32 y.ax) (by (repeat (first | rw [World.cell?_drew] | rw [World.cell?_alloc_past _ _ _ (by first | (simp; done) | (simp; omega))])); rw [World.cell?_alloc_at _ _ _ _ (by simp)]; rfl)
            have y3 := Kep.all g1 (a := ⟨w.heap.size + 1 + 1, 3, none⟩) (v := .int .i32 y.ay) (by (repeat (first | rw [World.cell?_drew] | rw [World.cell?_alloc_past _ _ _ (by first | (simp; done) | (simp; omega))])); rw [World.cell?_alloc_at _ _ _ _ (by simp)]; rfl)
            have y4 := Kep.all g1 (a := ⟨w.heap.size + 1 + 1, 4, none⟩) (v := .int .i32 y.m) (by (repeat (first | rw [World.cell?_drew] | rw [World.cell?_alloc_past _ _ _ (by first | (simp; done) | (simp; omega))])); rw [World.cell?_alloc_at _ _ _ _ (by simp)]; rfl)
            have y5 := Kep.all g1 (a := ⟨w.heap.size + 1 + 1, 5, none⟩) (v := .int .i32 y.o) (by (repeat (first | rw [World.cell?_drew] | rw [World.cell?_alloc_past _ _ _ (by first | (simp; done) | (simp; omega))])); rw [World.cell?_alloc_at _ _ _ _ (by simp)]; rfl)
            have y6 := Kep.all g1 (a := ⟨w.heap.size + 1 + 1, 6, none⟩) (v := .int .i32 y.px) (by (repeat (first | rw [World.cell?_drew] | rw [World.cell?_alloc_past _ _ _ (by first | (simp; done) | (simp; omega))])); rw [World.cell?_alloc_at _ _ _ _ (by simp)]; rfl)
            have y7 := Kep.all g1 (a := ⟨w.heap.size + 1 + 1, 7, none⟩) (v := .int .i32 y.py) (by (repeat (first | rw [World.cell?_drew] | rw [World.cell?_alloc_past _ _ _ (by first | (simp; done) | (simp; omega))])); rw [World.cell?_alloc_at _ _ _ _ (by simp)]; rfl)
            have y8 := Kep.all g1 (a := ⟨w.heap.size + 1 + 1, 8, none⟩) (v := .int .i32 y.vx) (by (repeat (first | rw [World.cell?_drew] | rw [World.cell?_alloc_past _ _ _ (by first | (simp; done) | (simp; omega))])); rw [World.cell?_alloc_at _ _ _ _ (by simp)]; rfl)
            have y9 := Kep.all g1 (a := ⟨w.heap.size + 1 + 1, 9, none⟩) (v := .int .i32 y.vy) (by (repeat (first | rw [World.cell?_drew] | rw [World.cell?_alloc_past _ _ _ (by first | (simp; done) | (simp; omega))])); rw [World.cell?_alloc_at _ _ _ _ (by simp)]; rfl)
            have z0 := Kep.all g1 (a := ⟨w.heap.size + 1 + 1 + 1, 0, none⟩) (v := .int .u32 x.k) (by (repeat (first | rw [World.cell?_drew] | rw [World.cell?_alloc_past _ _ _ (by first | (simp; done) | (simp; omega))])); rw [World.cell?_alloc_at _ _ _ _ (by simp)]; rfl)
            have z1 := Kep.all g1 (a := ⟨w.heap.size + 1 + 1 + 1, 1, none⟩) (v := .int .i32 x.r) (by (repeat (first | rw [World.cell?_drew] | rw [World.cell?_alloc_past _ _ _ (by first | (simp; done) | (simp; omega))])); rw [World.cell?_alloc_at _ _ _ _ (by simp)]; rfl)
            have z2 := Kep.all g1 (a := ⟨w.heap.size + 1 + 1 + 1, 2, none⟩) (v := .int .i32 x.ax) (by (repeat (first | rw [World.cell?_drew] | rw [World.cell?_alloc_past _ _ _ (by first | (simp; done) | (simp; omega))])); rw [World.cell?_alloc_at _ _ _ _ (by simp)]; rfl)
            have z3 := Kep.all g1 (a := ⟨w.heap.size + 1 + 1 + 1, 3, none⟩) (v := .int .i32 x.ay) (by (repeat (first | rw [World.cell?_drew] | rw [World.cell?_alloc_past _ _ _ (by first | (simp; done) | (simp; omega))])); rw [World.cell?_alloc_at _ _ _ _ (by simp)]; rfl)
            have z4 := Kep.all g1 (a := ⟨w.heap.size + 1 + 1 + 1, 4, none⟩) (v := .int .i32 x.m) (by (repeat (first | rw [World.cell?_drew] | rw [World.cell?_alloc_past _ _ _ (by first | (simp; done) | (simp; omega))])); rw [World.cell?_alloc_at _ _ _ _ (by simp)]; rfl)
            have z5 := Kep.all g1 (a := ⟨w.heap.size + 1 + 1 + 1, 5, none⟩) (v := .int .i32 o) (by (repeat (first | rw [World.cell?_drew] | rw [World.cell?_alloc_past _ _ _ (by first | (simp; done) | (simp; omega))])); rw [World.cell?_alloc_at _ _ _ _ (by simp)]; rfl)
            have z6 := Kep.all g1 (a := ⟨w.heap.size + 1 + 1 + 1, 6, none⟩) (v := .int .i32 x.px) (by (repeat (first | rw [World.cell?_drew] | rw [World.cell?_alloc_past _ _ _ (by first | (simp; done) | (simp; omega))])); rw [World.cell?_alloc_at _ _ _ _ (by simp)]; rfl)
            have z7 := Kep.all g1 (a := ⟨w.heap.size + 1 + 1 + 1, 7, none⟩) (v := .int .i32 x.py) (by (repeat (first | rw [World.cell?_drew] | rw [World.cell?_alloc_past _ _ _ (by first | (simp; done) | (simp; omega))])); rw [World.cell?_alloc_at _ _ _ _ (by simp)]; rfl)
            have z8 := Kep.all g1 (a := ⟨w.heap.size + 1 + 1 + 1, 8, none⟩) (v := .int .i32 x.vx) (by (repeat (first | rw [World.cell?_drew] | rw [World.cell?_alloc_past _ _ _ (by first | (simp; done) | (simp; omega))])); rw [World.cell?_alloc_at _ _ _ _ (by simp)]; rfl)
            have z9 := Kep.all g1 (a := ⟨w.heap.size + 1 + 1 + 1, 9, none⟩) (v := .int .i32 x.vy) (by (repeat (first | rw [World.cell?_drew] | rw [World.cell?_alloc_past _ _ _ (by first | (simp; done) | (simp; omega))])); rw [World.cell?_alloc_at _ _ _ _ (by simp)]; rfl)
            have gg := kep_next (kep_more (kep_more (kep_more (kep_more (Kep.refl _ _) _) _) _) _) g1
            have zc_w1 : w.heap.size < w1.heap.size := World.block_lt_of_cell? _ _ c0
            have zx_w1 : w.heap.size + 1 < w1.heap.size := World.block_lt_of_cell? _ _ x0
            have zy_w1 : w.heap.size + 1 + 1 < w1.heap.size := World.block_lt_of_cell? _ _ y0
            have zz_w1 : w.heap.size + 1 + 1 + 1 < w1.heap.size := World.block_lt_of_cell? _ _ z0))
    | ((with_reducible refine (RR.out _).mono ?_); rintro e w2 ⟨rfl, g2⟩
       replace c0 := Kep.all g2 (a := ⟨w.heap.size, 0, none⟩) (v := .int .u32 lo) c0
       replace c1 := Kep.all g2 (a := ⟨w.heap.size, 1, none⟩) (v := .int .u32 hi) c1
       replace c2 := Kep.all g2 (a := ⟨w.heap.size, 2, none⟩) (v := .int .i32 nx) c2
       replace c3 := Kep.all g2 (a := ⟨w.heap.size, 3, none⟩) (v := .int .i32 ny) c3
       replace c4 := Kep.all g2 (a := ⟨w.heap.size, 4, none⟩) (v := .int .i32 dp) c4
       replace x0 := Kep.all g2 (a := ⟨w.heap.size + 1, 0, none⟩) (v := .int .u32 x.k) x0
       replace x1 := Kep.all g2 (a := ⟨w.heap.size + 1, 1, none⟩) (v := .int .i32 x.r) x1
       replace x2 := Kep.all g2 (a := ⟨w.heap.size + 1, 2, none⟩) (v := .int .i32 x.ax) x2
       replace x3 := Kep.all g2 (a := ⟨w.heap.size + 1, 3, none⟩) (v := .int .i32 x.ay) x3
       replace x4 := Kep.all g2 (a := ⟨w.heap.size + 1, 4, none⟩) (v := .int .i32 x.m) x4
       replace x5 := Kep.all g2 (a := ⟨w.heap.size + 1, 5, none⟩) (v := .int .i32 x.o) x5
       replace x6 := Kep.all g2 (a := ⟨w.heap.size + 1, 6, none⟩) (v := .int .i32 x.px) x6
       replace x7 := Kep.all g2 (a := ⟨w.heap.size + 1, 7, none⟩) (v := .int .i32 x.py) x7
       replace x8 := Kep.all g2 (a := ⟨w.heap.size + 1, 8, none⟩) (v := .int .i32 x.vx) x8
       replace x9 := Kep.all g2 (a := ⟨w.heap.size + 1, 9, none⟩) (v := .int .i32 x.vy) x9
       replace y0 := Kep.all g2 (a := ⟨w.heap.size + 1 + 1, 0, none⟩) (v := .int .u32 y.k) y0
       replace y1 := Kep.all g2 (a := ⟨w.heap.size + 1 + 1, 1, none⟩) (v := .int .i32 y.r) y1
       replace y2 := Kep.all g2 (a := ⟨w.heap.size + 1 + 1, 2, none⟩) (v := .int .i32 y.ax) y2
       replace y3 := Kep.all g2 (a := ⟨w.heap.size + 1 + 1, 3, none⟩) (v := .int .i32 y.ay) y3
       replace y4 := Kep.all g2 (a := ⟨w.heap.size + 1 + 1, 4, none⟩) (v := .int .i32 y.m) y4
       replace y5 := Kep.all g2 (a := ⟨w.heap.size + 1 + 1, 5, none⟩) (v := .int .i32 y.o) y5
       replace y6 := Kep.all g2 (a := ⟨w.heap.size + 1 + 1, 6, none⟩) (v := .int .i32 y.px) y6
       replace y7 := Kep.all g2 (a := ⟨w.heap.size + 1 + 1, 7, none⟩) (v := .int .i32 y.py) y7
       replace y8 := Kep.all g2 (a := ⟨w.heap.size + 1 + 1, 8, none⟩) (v := .int .i32 y.vx) y8
       replace y9 := Kep.all g2 (a := ⟨w.heap.size + 1 + 1, 9, none⟩) (v := .int .i32 y.vy) y9
       replace z0 := Kep.all g2 (a := ⟨w.heap.size + 1 + 1 + 1, 0, none⟩) (v := .int .u32 x.k) z0
       replace z1 := Kep.all g2 (a := ⟨w.heap.size + 1 + 1 + 1, 1, none⟩) (v := .int .i32 x.r) z1
       replace z2 := Kep.all g2 (a := ⟨w.heap.size + 1 + 1 + 1, 2, none⟩) (v := .int .i32 x.ax) z2
       replace z3 := Kep.all g2 (a := ⟨w.heap.size + 1 + 1 + 1, 3, none⟩) (v := .int .i32 x.ay) z3
       replace z4 := Kep.all g2 (a := ⟨w.heap.size + 1 + 1 + 1, 4, none⟩) (v := .int .i32 x.m) z4
       replace z5 := Kep.all g2 (a := ⟨w.heap.size + 1 + 1 + 1, 5, none⟩) (v := .int .i32 o) z5
       replace z6 := Kep.all g2 (a := ⟨w.heap.size + 1 + 1 + 1, 6, none⟩) (v := .int .i32 x.px) z6
       replace z7 := Kep.all g2 (a := ⟨w.heap.size + 1 + 1 + 1, 7, none⟩) (v := .int .i32 x.py) z7
       replace z8 := Kep.all g2 (a := ⟨w.heap.size + 1 + 1 + 1, 8, none⟩) (v := .int .i32 x.vx) z8
       replace z9 := Kep.all g2 (a := ⟨w.heap.size + 1 + 1 + 1, 9, none⟩) (v := .int .i32 x.vy) z9
       replace gg := kep_next gg g2
       have zc_w2 : w.heap.size < w2.heap.size := World.block_lt_of_cell? _ _ c0
       have zx_w2 : w.heap.size + 1 < w2.heap.size := World.block_lt_of_cell? _ _ x0
       have zy_w2 : w.heap.size + 1 + 1 < w2.heap.size := World.block_lt_of_cell? _ _ y0
       have zz_w2 : w.heap.size + 1 + 1 + 1 < w2.heap.size := World.block_lt_of_cell? _ _ z0))
  go_ret
  exact ⟨rfl, gg⟩
set_option maxRecDepth 100000 in
set_option maxHeartbeats 2000000 in
theorem ibl_b2 (AW : Hid IAwake) (lo hi nx ny dp o : Int) (x y : Bd) (RR : Hid (JRi lo hi nx ny dp x y true)) (R2 : Hid (∀ w, Calls Try.prog 9 #[.agg #[.int .u32 lo, .int .u32 hi, .int .i32 nx, .int .i32 ny, .int .i32 dp], .agg #[.int .u32 x.k, .int .i32 x.r, .int .i32 x.ax, .int .i32 x.ay, .int .i32 x.m, .int .i32 o, .int .i32 x.px, .int .i32 x.py, .int .i32 x.vx, .int .i32 x.vy], .agg #[.int .u32 y.k, .int .i32 y.r, .int .i32 y.ax, .int .i32 y.ay, .int .i32 y.m, .int .i32 y.o, .int .i32 y.px, .int .i32 y.py, .int .i32 y.vx, .int .i32 y.vy]] w fun e w' => e = .returned (.bool false) ∧ Kep w.heap.size w w')) (w : World) : Calls Try.prog 7 #[.agg #[.int .u32 lo, .int .u32 hi, .int .i32 nx, .int .i32 ny, .int .i32 dp], .agg #[.int .u32 x.k, .int .i32 x.r, .int .i32 x.ax, .int .i32 x.ay, .int .i32 x.m, .int .i32 x.o, .int .i32 x.px, .int .i32 x.py, .int .i32 x.vx, .int .i32 x.vy], .agg #[.int .u32 y.k, .int .i32 y.r, .int .i32 y.ax, .int .i32 y.ay, .int .i32 y.m, .int .i32 y.o, .int .i32 y.px, .int .i32 y.py, .int .i32 y.vx, .int .i32 y.vy], .int .i32 o] w fun e w' => e = .returned (.bool true) ∧ Kep w.heap.size w w' := by
  go_enter Try.func7, Try.ntmps7
  go_wp2_with (first
    | ((with_reducible refine (AW.out _).mono ?_); rintro e w1 ⟨rfl, g1⟩
       first
         | (replace gg := kep_next gg g1)
         | (have c0 := Kep.all g1 (a := ⟨w.heap.size, 0, none⟩) (v := .int .u32 lo) (by (repeat (first | rw [World.cell?_drew] | rw [World.cell?_alloc_past _ _ _ (by first | (simp; done) | (simp; omega))])); rw [World.cell?_alloc_at _ _ _ _ (by simp)]; rfl)
            have c1 := Kep.all g1 (a := ⟨w.heap.size, 1, none⟩) (v := .int .u32 hi) (by (repeat (first | rw [World.cell?_drew] | rw [World.cell?_alloc_past _ _ _ (by first | (simp; done) | (simp; omega))])); rw [World.cell?_alloc_at _ _ _ _ (by simp)]; rfl)
            have c2 := Kep.all g1 (a := ⟨w.heap.size, 2, none⟩) (v := .int .i32 nx) (by (repeat (first | rw [World.cell?_drew] | rw [World.cell?_alloc_past _ _ _ (by first | (simp; done) | (simp; omega))])); rw [World.cell?_alloc_at _ _ _ _ (by simp)]; rfl)
            have c3 := Kep.all g1 (a := ⟨w.heap.size, 3, none⟩) (v := .int .i32 ny) (by (repeat (first | rw [World.cell?_drew] | rw [World.cell?_alloc_past _ _ _ (by first | (simp; done) | (simp; omega))])); rw [World.cell?_alloc_at _ _ _ _ (by simp)]; rfl)
            have c4 := Kep.all g1 (a := ⟨w.heap.size, 4, none⟩) (v := .int .i32 dp) (by (repeat (first | rw [World.cell?_drew] | rw [World.cell?_alloc_past _ _ _ (by first | (simp; done) | (simp; omega))])); rw [World.cell?_alloc_at _ _ _ _ (by simp)]; rfl)
            have x0 := Kep.all g1 (a := ⟨w.heap.size + 1, 0, none⟩) (v := .int .u32 x.k) (by (repeat (first | rw [World.cell?_drew] | rw [World.cell?_alloc_past _ _ _ (by first | (simp; done) | (simp; omega))])); rw [World.cell?_alloc_at _ _ _ _ (by simp)]; rfl)
            have x1 := Kep.all g1 (a := ⟨w.heap.size + 1, 1, none⟩) (v := .int .i32 x.r) (by (repeat (first | rw [World.cell?_drew] | rw [World.cell?_alloc_past _ _ _ (by first | (simp; done) | (simp; omega))])); rw [World.cell?_alloc_at _ _ _ _ (by simp)]; rfl)
            have x2 := Kep.all g1 (a := ⟨w.heap.size + 1, 2, none⟩) (v := .int .i32 x.ax) (by (repeat (first | rw [World.cell?_drew] | rw [World.cell?_alloc_past _ _ _ (by first | (simp; done) | (simp; omega))])); rw [World.cell?_alloc_at _ _ _ _ (by simp)]; rfl)
            have x3 := Kep.all g1 (a := ⟨w.heap.size + 1, 3, none⟩) (v := .int .i32 x.ay) (by (repeat (first | rw [World.cell?_drew] | rw [World.cell?_alloc_past _ _ _ (by first | (simp; done) | (simp; omega))])); rw [World.cell?_alloc_at _ _ _ _ (by simp)]; rfl)
            have x4 := Kep.all g1 (a := ⟨w.heap.size + 1, 4, none⟩) (v := .int .i32 x.m) (by (repeat (first | rw [World.cell?_drew] | rw [World.cell?_alloc_past _ _ _ (by first | (simp; done) | (simp; omega))])); rw [World.cell?_alloc_at _ _ _ _ (by simp)]; rfl)
            have x5 := Kep.all g1 (a := ⟨w.heap.size + 1, 5, none⟩) (v := .int .i32 x.o) (by (repeat (first | rw [World.cell?_drew] | rw [World.cell?_alloc_past _ _ _ (by first | (simp; done) | (simp; omega))])); rw [World.cell?_alloc_at _ _ _ _ (by simp)]; rfl)
            have x6 := Kep.all g1 (a := ⟨w.heap.size + 1, 6, none⟩) (v := .int .i32 x.px) (by (repeat (first | rw [World.cell?_drew] | rw [World.cell?_alloc_past _ _ _ (by first | (simp; done) | (simp; omega))])); rw [World.cell?_alloc_at _ _ _ _ (by simp)]; rfl)
            have x7 := Kep.all g1 (a := ⟨w.heap.size + 1, 7, none⟩) (v := .int .i32 x.py) (by (repeat (first | rw [World.cell?_drew] | rw [World.cell?_alloc_past _ _ _ (by first | (simp; done) | (simp; omega))])); rw [World.cell?_alloc_at _ _ _ _ (by simp)]; rfl)
            have x8 := Kep.all g1 (a := ⟨w.heap.size + 1, 8, none⟩) (v := .int .i32 x.vx) (by (repeat (first | rw [World.cell?_drew] | rw [World.cell?_alloc_past _ _ _ (by first | (simp; done) | (simp; omega))])); rw [World.cell?_alloc_at _ _ _ _ (by simp)]; rfl)
            have x9 := Kep.all g1 (a := ⟨w.heap.size + 1, 9, none⟩) (v := .int .i32 x.vy) (by (repeat (first | rw [World.cell?_drew] | rw [World.cell?_alloc_past _ _ _ (by first | (simp; done) | (simp; omega))])); rw [World.cell?_alloc_at _ _ _ _ (by simp)]; rfl)
            have y0 := Kep.all g1 (a := ⟨w.heap.size + 1 + 1, 0, none⟩) (v := .int .u32 y.k) (by (repeat (first | rw [World.cell?_drew] | rw [World.cell?_alloc_past _ _ _ (by first | (simp; done) | (simp; omega))])); rw [World.cell?_alloc_at _ _ _ _ (by simp)]; rfl)
            have y1 := Kep.all g1 (a := ⟨w.heap.size + 1 + 1, 1, none⟩) (v := .int .i32 y.r) (by (repeat (first | rw [World.cell?_drew] | rw [World.cell?_alloc_past _ _ _ (by first | (simp; done) | (simp; omega))])); rw [World.cell?_alloc_at _ _ _ _ (by simp)]; rfl)
            have y2 := Kep.all g1 (a := ⟨w.heap.size + 1 + 1, 2, none⟩) (v := .int .i32 y.ax) (by (repeat (first | rw [World.cell?_drew] | rw [World.cell?_alloc_past _ _ _ (by first | (simp; done) | (simp; omega))])); rw [World.cell?_alloc_at _ _ _ _ (by simp)]; rfl)
            have y3 := Kep.all g1 (a := ⟨w.heap.size + 1 + 1, 3, none⟩) (v := .int .i32 y.ay) (by (repeat (first | rw [World.cell?_drew] | rw [World.cell?_alloc_past _ _ _ (by first | (simp; done) | (simp; omega))])); rw [World.cell?_alloc_at _ _ _ _ (by simp)]; rfl)
            have y4 := Kep.all g1 (a := ⟨w.heap.size + 1 + 1, 4, none⟩) (v := .int .i32 y.m) (by (repeat (first | rw [World.cell?_drew] | rw [World.cell?_alloc_past _ _ _ (by first | (simp; done) | (simp; omega))])); rw [World.cell?_alloc_at _ _ _ _ (by simp)]; rfl)
            have y5 := Kep.all g1 (a := ⟨w.heap.size + 1 + 1, 5, none⟩) (v := .int .i32 y.o) (by (repeat (first | rw [World.cell?_drew] | rw [World.cell?_alloc_past _ _ _ (by first | (simp; done) | (simp; omega))])); rw [World.cell?_alloc_at _ _ _ _ (by simp)]; rfl)
            have y6 := Kep.all g1 (a := ⟨w.heap.size + 1 + 1, 6, none⟩) (v := .int .i32 y.px) (by (repeat (first | rw [World.cell?_drew] | rw [World.cell?_alloc_past _ _ _ (by first | (simp; done) | (simp; omega))])); rw [World.cell?_alloc_at _ _ _ _ (by simp)]; rfl)
            have y7 := Kep.all g1 (a := ⟨w.heap.size + 1 + 1, 7, none⟩) (v := .int .i32 y.py) (by (repeat (first | rw [World.cell?_drew] | rw [World.cell?_alloc_past _ _ _ (by first | (simp; done) | (simp; omega))])); rw [World.cell?_alloc_at _ _ _ _ (by simp)]; rfl)
            have y8 := Kep.all g1 (a := ⟨w.heap.size + 1 + 1, 8, none⟩) (v := .int .i32 y.vx) (by (repeat (first | rw [World.cell?_drew] | rw [World.cell?_alloc_past _ _ _ (by first | (simp; done) | (simp; omega))])); rw [World.cell?_alloc_at _ _ _ _ (by simp)]; rfl)
            have y9 := Kep.all g1 (a := ⟨w.heap.size + 1 + 1, 9, none⟩) (v := .int .i32 y.vy) (by (repeat (first | rw [World.cell?_drew] | rw [World.cell?_alloc_past _ _ _ (by first | (simp; done) | (simp; omega))])); rw [World.cell?_alloc_at _ _ _ _ (by simp)]; rfl)
            have z0 := Kep.all g1 (a := ⟨w.heap.size + 1 + 1 + 1, 0, none⟩) (v := .int .u32 x.k) (by (repeat (first | rw [World.cell?_drew] | rw [World.cell?_alloc_past _ _ _ (by first | (simp; done) | (simp; omega))])); rw [World.cell?_alloc_at _ _ _ _ (by simp)]; rfl)
            have z1 := Kep.all g1 (a := ⟨w.heap.size + 1 + 1 + 1, 1, none⟩) (v := .int .i32 x.r) (by (repeat (first | rw [World.cell?_drew] | rw [World.cell?_alloc_past _ _ _ (by first | (simp; done) | (simp; omega))])); rw [World.cell?_alloc_at _ _ _ _ (by simp)]; rfl)
            have z2 := Kep.all g1 (a := ⟨w.heap.size + 1 + 1 + 1, 2, none⟩) (v := .int .i32 x.ax) (by (repeat (first | rw [World.cell?_drew] | rw [World.cell?_alloc_past _ _ _ (by first | (simp; done) | (simp; omega))])); rw [World.cell?_alloc_at _ _ _ _ (by simp)]; rfl)
            have z3 := Kep.all g1 (a := ⟨w.heap.size + 1 + 1 + 1, 3, none⟩) (v := .int .i32 x.ay) (by (repeat (first | rw [World.cell?_drew] | rw [World.cell?_alloc_past _ _ _ (by first | (simp; done) | (simp; omega))])); rw [World.cell?_alloc_at _ _ _ _ (by simp)]; rfl)
            have z4 := Kep.all g1 (a := ⟨w.heap.size + 1 + 1 + 1, 4, none⟩) (v := .int .i32 x.m) (by (repeat (first | rw [World.cell?_drew] | rw [World.cell?_alloc_past _ _ _ (by first | (simp; done) | (simp; omega))])); rw [World.cell?_alloc_at _ _ _ _ (by simp)]; rfl)
            have z5 := Kep.all g1 (a := ⟨w.heap.size + 1 + 1 + 1, 5, none⟩) (v := .int .i32 o) (by (repeat (first | rw [World.cell?_drew] | rw [World.cell?_alloc_past _ _ _ (by first | (simp; done) | (simp; omega))])); rw [World.cell?_alloc_at _ _ _ _ (by simp)]; rfl)
            have z6 := Kep.all g1 (a := ⟨w.heap.size + 1 + 1 + 1, 6, none⟩) (v := .int .i32 x.px) (by (repeat (first | rw [World.cell?_drew] | rw [World.cell?_alloc_past _ _ _ (by first | (simp; done) | (simp; omega))])); rw [World.cell?_alloc_at _ _ _ _ (by simp)]; rfl)
            have z7 := Kep.all g1 (a := ⟨w.heap.size + 1 + 1 + 1, 7, none⟩) (v := .int .i32 x.py) (by (repeat (first | rw [World.cell?_drew] | rw [World.cell?_alloc_past _ _ _ (by first | (simp; done) | (simp; omega))])); rw [World.cell?_alloc_at _ _ _ _ (by simp)]; rfl)
            have z8 := Kep.all g1 (a := ⟨w.heap.size + 1 + 1 + 1, 8, none⟩) (v := .int .i32 x.vx) (by (repeat (first | rw [World.cell?_drew] | rw [World.cell?_alloc_past _ _ _ (by first | (simp; done) | (simp; omega))])); rw [World.cell?_alloc_at _ _ _ _ (by simp)]; rfl)
            have z9 := Kep.all g1 (a := ⟨w.heap.size + 1 + 1 + 1, 9, none⟩) (v := .int .i32 x.vy) (by (repeat (first | rw [World.cell?_drew] | rw [World.cell?_alloc_past _ _ _ (by first | (simp; done) | (simp; omega))])); rw [World.cell?_alloc_at _ _ _ _ (by simp)]; rfl)
            have gg := kep_next (kep_more (kep_more (kep_more (kep_more (Kep.refl _ _) _) _) _) _) g1
            have zc_w1 : w.heap.size < w1.heap.size := World.block_lt_of_cell? _ _ c0
            have zx_w1 : w.heap.size + 1 < w1.heap.size := World.block_lt_of_cell? _ _ x0
            have zy_w1 : w.heap.size + 1 + 1 < w1.heap.size := World.block_lt_of_cell? _ _ y0
            have zz_w1 : w.heap.size + 1 + 1 + 1 < w1.heap.size := World.block_lt_of_cell? _ _ z0))
    | ((with_reducible refine (RR.out _).mono ?_); rintro e w2 ⟨rfl, g2⟩
       replace c0 := Kep.all g2 (a := ⟨w.heap.size, 0, none⟩) (v := .int .u32 lo) c0
       replace c1 := Kep.all g2 (a := ⟨w.heap.size, 1, none⟩) (v := .int .u32 hi) c1
       replace c2 := Kep.all g2 (a := ⟨w.heap.size, 2, none⟩) (v := .int .i32 nx) c2
       replace c3 := Kep.all g2 (a := ⟨w.heap.size, 3, none⟩) (v := .int .i32 ny) c3
       replace c4 := Kep.all g2 (a := ⟨w.heap.size, 4, none⟩) (v := .int .i32 dp) c4
       replace x0 := Kep.all g2 (a := ⟨w.heap.size + 1, 0, none⟩) (v := .int .u32 x.k) x0
       replace x1 := Kep.all g2 (a := ⟨w.heap.size + 1, 1, none⟩) (v := .int .i32 x.r) x1
       replace x2 := Kep.all g2 (a := ⟨w.heap.size + 1, 2, none⟩) (v := .int .i32 x.ax) x2
       replace x3 := Kep.all g2 (a := ⟨w.heap.size + 1, 3, none⟩) (v := .int .i32 x.ay) x3
       replace x4 := Kep.all g2 (a := ⟨w.heap.size + 1, 4, none⟩) (v := .int .i32 x.m) x4
       replace x5 := Kep.all g2 (a := ⟨w.heap.size + 1, 5, none⟩) (v := .int .i32 x.o) x5
       replace x6 := Kep.all g2 (a := ⟨w.heap.size + 1, 6, none⟩) (v := .int .i32 x.px) x6
       replace x7 := Kep.all g2 (a := ⟨w.heap.size + 1, 7, none⟩) (v := .int .i32 x.py) x7
       replace x8 := Kep.all g2 (a := ⟨w.heap.size + 1, 8, none⟩) (v := .int .i32 x.vx) x8
       replace x9 := Kep.all g2 (a := ⟨w.heap.size + 1, 9, none⟩) (v := .int .i32 x.vy) x9
       replace y0 := Kep.all g2 (a := ⟨w.heap.size + 1 + 1, 0, none⟩) (v := .int .u32 y.k) y0
       replace y1 := Kep.all g2 (a := ⟨w.heap.size + 1 + 1, 1, none⟩) (v := .int .i32 y.r) y1
       replace y2 := Kep.all g2 (a := ⟨w.heap.size + 1 + 1, 2, none⟩) (v := .int .i32 y.ax) y2
       replace y3 := Kep.all g2 (a := ⟨w.heap.size + 1 + 1, 3, none⟩) (v := .int .i32 y.ay) y3
       replace y4 := Kep.all g2 (a := ⟨w.heap.size + 1 + 1, 4, none⟩) (v := .int .i32 y.m) y4
       replace y5 := Kep.all g2 (a := ⟨w.heap.size + 1 + 1, 5, none⟩) (v := .int .i32 y.o) y5
       replace y6 := Kep.all g2 (a := ⟨w.heap.size + 1 + 1, 6, none⟩) (v := .int .i32 y.px) y6
       replace y7 := Kep.all g2 (a := ⟨w.heap.size + 1 + 1, 7, none⟩) (v := .int .i32 y.py) y7
       replace y8 := Kep.all g2 (a := ⟨w.heap.size + 1 + 1, 8, none⟩) (v := .int .i32 y.vx) y8
       replace y9 := Kep.all g2 (a := ⟨w.heap.size + 1 + 1, 9, none⟩) (v := .int .i32 y.vy) y9
       replace z0 := Kep.all g2 (a := ⟨w.heap.size + 1 + 1 + 1, 0, none⟩) (v := .int .u32 x.k) z0
       replace z1 := Kep.all g2 (a := ⟨w.heap.size + 1 + 1 + 1, 1, none⟩) (v := .int .i32 x.r) z1
       replace z2 := Kep.all g2 (a := ⟨w.heap.size + 1 + 1 + 1, 2, none⟩) (v := .int .i32 x.ax) z2
       replace z3 := Kep.all g2 (a := ⟨w.heap.size + 1 + 1 + 1, 3, none⟩) (v := .int .i32 x.ay) z3
       replace z4 := Kep.all g2 (a := ⟨w.heap.size + 1 + 1 + 1, 4, none⟩) (v := .int .i32 x.m) z4
       replace z5 := Kep.all g2 (a := ⟨w.heap.size + 1 + 1 + 1, 5, none⟩) (v := .int .i32 o) z5
       replace z6 := Kep.all g2 (a := ⟨w.heap.size + 1 + 1 + 1, 6, none⟩) (v := .int .i32 x.px) z6
       replace z7 := Kep.all g2 (a := ⟨w.heap.size + 1 + 1 + 1, 7, none⟩) (v := .int .i32 x.py) z7
       replace z8 := Kep.all g2 (a := ⟨w.heap.size + 1 + 1 + 1, 8, none⟩) (v := .int .i32 x.vx) z8
       replace z9 := Kep.all g2 (a := ⟨w.heap.size + 1 + 1 + 1, 9, none⟩) (v := .int .i32 x.vy) z9
       replace gg := kep_next gg g2
       have zc_w2 : w.heap.size < w2.heap.size := World.block_lt_of_cell? _ _ c0
       have zx_w2 : w.heap.size + 1 < w2.heap.size := World.block_lt_of_cell? _ _ x0
       have zy_w2 : w.heap.size + 1 + 1 < w2.heap.size := World.block_lt_of_cell? _ _ y0
       have zz_w2 : w.heap.size + 1 + 1 + 1 < w2.heap.size := World.block_lt_of_cell? _ _ z0)
    | ((with_reducible refine (R2.out _).mono ?_); rintro e w3 ⟨rfl, g3⟩
       replace c0 := Kep.all g3 (a := ⟨w.heap.size, 0, none⟩) (v := .int .u32 lo) c0
       replace c1 := Kep.all g3 (a := ⟨w.heap.size, 1, none⟩) (v := .int .u32 hi) c1
       replace c2 := Kep.all g3 (a := ⟨w.heap.size, 2, none⟩) (v := .int .i32 nx) c2
       replace c3 := Kep.all g3 (a := ⟨w.heap.size, 3, none⟩) (v := .int .i32 ny) c3
       replace c4 := Kep.all g3 (a := ⟨w.heap.size, 4, none⟩) (v := .int .i32 dp) c4
       replace x0 := Kep.all g3 (a := ⟨w.heap.size + 1, 0, none⟩) (v := .int .u32 x.k) x0
       replace x1 := Kep.all g3 (a := ⟨w.heap.size + 1, 1, none⟩) (v := .int .i32 x.r) x1
       replace x2 := Kep.all g3 (a := ⟨w.heap.size + 1, 2, none⟩) (v := .int .i32 x.ax) x2
       replace x3 := Kep.all g3 (a := ⟨w.heap.size + 1, 3, none⟩) (v := .int .i32 x.ay) x3
       replace x4 := Kep.all g3 (a := ⟨w.heap.size + 1, 4, none⟩) (v := .int .i32 x.m) x4
       replace x5 := Kep.all g3 (a := ⟨w.heap.size + 1, 5, none⟩) (v := .int .i32 x.o) x5
       replace x6 := Kep.all g3 (a := ⟨w.heap.size + 1, 6, none⟩) (v := .int .i32 x.px) x6
       replace x7 := Kep.all g3 (a := ⟨w.heap.size + 1, 7, none⟩) (v := .int .i32 x.py) x7
       replace x8 := Kep.all g3 (a := ⟨w.heap.size + 1, 8, none⟩) (v := .int .i32 x.vx) x8
       replace x9 := Kep.all g3 (a := ⟨w.heap.size + 1, 9, none⟩) (v := .int .i32 x.vy) x9
       replace y0 := Kep.all g3 (a := ⟨w.heap.size + 1 + 1, 0, none⟩) (v := .int .u32 y.k) y0
       replace y1 := Kep.all g3 (a := ⟨w.heap.size + 1 + 1, 1, none⟩) (v := .int .i32 y.r) y1
       replace y2 := Kep.all g3 (a := ⟨w.heap.size + 1 + 1, 2, none⟩) (v := .int .i32 y.ax) y2
       replace y3 := Kep.all g3 (a := ⟨w.heap.size + 1 + 1, 3, none⟩) (v := .int .i32 y.ay) y3
       replace y4 := Kep.all g3 (a := ⟨w.heap.size + 1 + 1, 4, none⟩) (v := .int .i32 y.m) y4
       replace y5 := Kep.all g3 (a := ⟨w.heap.size + 1 + 1, 5, none⟩) (v := .int .i32 y.o) y5
       replace y6 := Kep.all g3 (a := ⟨w.heap.size + 1 + 1, 6, none⟩) (v := .int .i32 y.px) y6
       replace y7 := Kep.all g3 (a := ⟨w.heap.size + 1 + 1, 7, none⟩) (v := .int .i32 y.py) y7
       replace y8 := Kep.all g3 (a := ⟨w.heap.size + 1 + 1, 8, none⟩) (v := .int .i32 y.vx) y8
       replace y9 := Kep.all g3 (a := ⟨w.heap.size + 1 + 1, 9, none⟩) (v := .int .i32 y.vy) y9
       replace z0 := Kep.all g3 (a := ⟨w.heap.size + 1 + 1 + 1, 0, none⟩) (v := .int .u32 x.k) z0
       replace z1 := Kep.all g3 (a := ⟨w.heap.size + 1 + 1 + 1, 1, none⟩) (v := .int .i32 x.r) z1
       replace z2 := Kep.all g3 (a := ⟨w.heap.size + 1 + 1 + 1, 2, none⟩) (v := .int .i32 x.ax) z2
       replace z3 := Kep.all g3 (a := ⟨w.heap.size + 1 + 1 + 1, 3, none⟩) (v := .int .i32 x.ay) z3
       replace z4 := Kep.all g3 (a := ⟨w.heap.size + 1 + 1 + 1, 4, none⟩) (v := .int .i32 x.m) z4
       replace z5 := Kep.all g3 (a := ⟨w.heap.size + 1 + 1 + 1, 5, none⟩) (v := .int .i32 o) z5
       replace z6 := Kep.all g3 (a := ⟨w.heap.size + 1 + 1 + 1, 6, none⟩) (v := .int .i32 x.px) z6
       replace z7 := Kep.all g3 (a := ⟨w.heap.size + 1 + 1 + 1, 7, none⟩) (v := .int .i32 x.py) z7
       replace z8 := Kep.all g3 (a := ⟨w.heap.size + 1 + 1 + 1, 8, none⟩) (v := .int .i32 x.vx) z8
       replace z9 := Kep.all g3 (a := ⟨w.heap.size + 1 + 1 + 1, 9, none⟩) (v := .int .i32 x.vy) z9
       replace gg := kep_next gg g3
       have zc_w3 : w.heap.size < w3.heap.size := World.block_lt_of_cell? _ _ c0
       have zx_w3 : w.heap.size + 1 < w3.heap.size := World.block_lt_of_cell? _ _ x0
       have zy_w3 : w.heap.size + 1 + 1 < w3.heap.size := World.block_lt_of_cell? _ _ y0
       have zz_w3 : w.heap.size + 1 + 1 + 1 < w3.heap.size := World.block_lt_of_cell? _ _ z0))
  go_ret
  exact ⟨rfl, gg⟩
set_option maxRecDepth 100000 in
set_option maxHeartbeats 2000000 in
theorem ibl_b3 (AW : Hid IAwake) (lo hi nx ny dp o : Int) (x y : Bd) (RR : Hid (JRi lo hi nx ny dp x y true)) (R2 : Hid (∀ w, Calls Try.prog 9 #[.agg #[.int .u32 lo, .int .u32 hi, .int .i32 nx, .int .i32 ny, .int .i32 dp], .agg #[.int .u32 x.k, .int .i32 x.r, .int .i32 x.ax, .int .i32 x.ay, .int .i32 x.m, .int .i32 o, .int .i32 x.px, .int .i32 x.py, .int .i32 x.vx, .int .i32 x.vy], .agg #[.int .u32 y.k, .int .i32 y.r, .int .i32 y.ax, .int .i32 y.ay, .int .i32 y.m, .int .i32 y.o, .int .i32 y.px, .int .i32 y.py, .int .i32 y.vx, .int .i32 y.vy]] w fun e w' => e = .returned (.bool true) ∧ Kep w.heap.size w w')) (q0 : decide (o < x.o) = true) (w : World) : Calls Try.prog 7 #[.agg #[.int .u32 lo, .int .u32 hi, .int .i32 nx, .int .i32 ny, .int .i32 dp], .agg #[.int .u32 x.k, .int .i32 x.r, .int .i32 x.ax, .int .i32 x.ay, .int .i32 x.m, .int .i32 x.o, .int .i32 x.px, .int .i32 x.py, .int .i32 x.vx, .int .i32 x.vy], .agg #[.int .u32 y.k, .int .i32 y.r, .int .i32 y.ax, .int .i32 y.ay, .int .i32 y.m, .int .i32 y.o, .int .i32 y.px, .int .i32 y.py, .int .i32 y.vx, .int .i32 y.vy], .int .i32 o] w fun e w' => e = .returned (.bool true) ∧ Kep w.heap.size w w' := by
  go_enter Try.func7, Try.ntmps7
  go_wp2_with (first
    | ((with_reducible refine (AW.out _).mono ?_); rintro e w1 ⟨rfl, g1⟩
       first
         | (replace gg := kep_next gg g1)
         | (have c0 := Kep.all g1 (a := ⟨w.heap.size, 0, none⟩) (v := .int .u32 lo) (by (repeat (first | rw [World.cell?_drew] | rw [World.cell?_alloc_past _ _ _ (by first | (simp; done) | (simp; omega))])); rw [World.cell?_alloc_at _ _ _ _ (by simp)]; rfl)
            have c1 := Kep.all g1 (a := ⟨w.heap.size, 1, none⟩) (v := .int .u32 hi) (by (repeat (first | rw [World.cell?_drew] | rw [World.cell?_alloc_past _ _ _ (by first | (simp; done) | (simp; omega))])); rw [World.cell?_alloc_at _ _ _ _ (by simp)]; rfl)
            have c2 := Kep.all g1 (a := ⟨w.heap.size, 2, none⟩) (v := .int .i32 nx) (by (repeat (first | rw [World.cell?_drew] | rw [World.cell?_alloc_past _ _ _ (by first | (simp; done) | (simp; omega))])); rw [World.cell?_alloc_at _ _ _ _ (by simp)]; rfl)
            have c3 := Kep.all g1 (a := ⟨w.heap.size, 3, none⟩) (v := .int .i32 ny) (by (repeat (first | rw [World.cell?_drew] | rw [World.cell?_alloc_past _ _ _ (by first | (simp; done) | (simp; omega))])); rw [World.cell?_alloc_at _ _ _ _ (by simp)]; rfl)
            have c4 := Kep.all g1 (a := ⟨w.heap.size, 4, none⟩) (v := .int .i32 dp) (by (repeat (first | rw [World.cell?_drew] | rw [World.cell?_alloc_past _ _ _ (by first | (simp; done) | (simp; omega))])); rw [World.cell?_alloc_at _ _ _ _ (by simp)]; rfl)
            have x0 := Kep.all g1 (a := ⟨w.heap.size + 1, 0, none⟩) (v := .int .u32 x.k) (by (repeat (first | rw [World.cell?_drew] | rw [World.cell?_alloc_past _ _ _ (by first | (simp; done) | (simp; omega))])); rw [World.cell?_alloc_at _ _ _ _ (by simp)]; rfl)
            have x1 := Kep.all g1 (a := ⟨w.heap.size + 1, 1, none⟩) (v := .int .i32 x.r) (by (repeat (first | rw [World.cell?_drew] | rw [World.cell?_alloc_past _ _ _ (by first | (simp; done) | (simp; omega))])); rw [World.cell?_alloc_at _ _ _ _ (by simp)]; rfl)
            have x2 := Kep.all g1 (a := ⟨w.heap.size + 1, 2, none⟩) (v := .int .i32 x.ax) (by (repeat (first | rw [World.cell?_drew] | rw [World.cell?_alloc_past _ _ _ (by first | (simp; done) | (simp; omega))])); rw [World.cell?_alloc_at _ _ _ _ (by simp)]; rfl)
            have x3 := Kep.all g1 (a := ⟨w.heap.size + 1, 3, none⟩) (v := .int .i32 x.ay) (by (repeat (first | rw [World.cell?_drew] | rw [World.cell?_alloc_past _ _ _ (by first | (simp; done) | (simp; omega))])); rw [World.cell?_alloc_at _ _ _ _ (by simp)]; rfl)
            have x4 := Kep.all g1 (a := ⟨w.heap.size + 1, 4, none⟩) (v := .int .i32 x.m) (by (repeat (first | rw [World.cell?_drew] | rw [World.cell?_alloc_past _ _ _ (by first | (simp; done) | (simp; omega))])); rw [World.cell?_alloc_at _ _ _ _ (by simp)]; rfl)
            have x5 := Kep.all g1 (a := ⟨w.heap.size + 1, 5, none⟩) (v := .int .i32 x.o) (by (repeat (first | rw [World.cell?_drew] | rw [World.cell?_alloc_past _ _ _ (by first | (simp; done) | (simp; omega))])); rw [World.cell?_alloc_at _ _ _ _ (by simp)]; rfl)
            have x6 := Kep.all g1 (a := ⟨w.heap.size + 1, 6, none⟩) (v := .int .i32 x.px) (by (repeat (first | rw [World.cell?_drew] | rw [World.cell?_alloc_past _ _ _ (by first | (simp; done) | (simp; omega))])); rw [World.cell?_alloc_at _ _ _ _ (by simp)]; rfl)
            have x7 := Kep.all g1 (a := ⟨w.heap.size + 1, 7, none⟩) (v := .int .i32 x.py) (by (repeat (first | rw [World.cell?_drew] | rw [World.cell?_alloc_past _ _ _ (by first | (simp; done) | (simp; omega))])); rw [World.cell?_alloc_at _ _ _ _ (by simp)]; rfl)
            have x8 := Kep.all g1 (a := ⟨w.heap.size + 1, 8, none⟩) (v := .int .i32 x.vx) (by (repeat (first | rw [World.cell?_drew] | rw [World.cell?_alloc_past _ _ _ (by first | (simp; done) | (simp; omega))])); rw [World.cell?_alloc_at _ _ _ _ (by simp)]; rfl)
            have x9 := Kep.all g1 (a := ⟨w.heap.size + 1, 9, none⟩) (v := .int .i32 x.vy) (by (repeat (first | rw [World.cell?_drew] | rw [World.cell?_alloc_past _ _ _ (by first | (simp; done) | (simp; omega))])); rw [World.cell?_alloc_at _ _ _ _ (by simp)]; rfl)
            have y0 := Kep.all g1 (a := ⟨w.heap.size + 1 + 1, 0, none⟩) (v := .int .u32 y.k) (by (repeat (first | rw [World.cell?_drew] | rw [World.cell?_alloc_past _ _ _ (by first | (simp; done) | (simp; omega))])); rw [World.cell?_alloc_at _ _ _ _ (by simp)]; rfl)
            have y1 := Kep.all g1 (a := ⟨w.heap.size + 1 + 1, 1, none⟩) (v := .int .i32 y.r) (by (repeat (first | rw [World.cell?_drew] | rw [World.cell?_alloc_past _ _ _ (by first | (simp; done) | (simp; omega))])); rw [World.cell?_alloc_at _ _ _ _ (by simp)]; rfl)
            have y2 := Kep.all g1 (a := ⟨w.heap.size + 1 + 1, 2, none⟩) (v := .int .i32 y.ax) (by (repeat (first | rw [World.cell?_drew] | rw [World.cell?_alloc_past _ _ _ (by first | (simp; done) | (simp; omega))])); rw [World.cell?_alloc_at _ _ _ _ (by simp)]; rfl)
            have y3 := Kep.all g1 (a := ⟨w.heap.size + 1 + 1, 3, none⟩) (v := .int .i32 y.ay) (by (repeat (first | rw [World.cell?_drew] | rw [World.cell?_alloc_past _ _ _ (by first | (simp; done) | (simp; omega))])); rw [World.cell?_alloc_at _ _ _ _ (by simp)]; rfl)
            have y4 := Kep.all g1 (a := ⟨w.heap.size + 1 + 1, 4, none⟩) (v := .int .i32 y.m) (by (repeat (first | rw [World.cell?_drew] | rw [World.cell?_alloc_past _ _ _ (by first | (simp; done) | (simp; omega))])); rw [World.cell?_alloc_at _ _ _ _ (by simp)]; rfl)
            have y5 := Kep.all g1 (a := ⟨w.heap.size + 1 + 1, 5, none⟩) (v := .int .i32 y.o) (by (repeat (first | rw [World.cell?_drew] | rw [World.cell?_alloc_past _ _ _ (by first | (simp; done) | (simp; omega))])); rw [World.cell?_alloc_at _ _ _ _ (by simp)]; rfl)
            have y6 := Kep.all g1 (a := ⟨w.heap.size + 1 + 1, 6, none⟩) (v := .int .i32 y.px) (by (repeat (first | rw [World.cell?_drew] | rw [World.cell?_alloc_past _ _ _ (by first | (simp; done) | (simp; omega))])); rw [World.cell?_alloc_at _ _ _ _ (by simp)]; rfl)
            have y7 := Kep.all g1 (a := ⟨w.heap.size + 1 + 1, 7, none⟩) (v := .int .i32 y.py) (by (repeat (first | rw [World.cell?_drew] | rw [World.cell?_alloc_past _ _ _ (by first | (simp; done) | (simp; omega))])); rw [World.cell?_alloc_at _ _ _ _ (by simp)]; rfl)
            have y8 := Kep.all g1 (a := ⟨w.heap.size + 1 + 1, 8, none⟩) (v := .int .i32 y.vx) (by (repeat (first | rw [World.cell?_drew] | rw [World.cell?_alloc_past _ _ _ (by first | (simp; done) | (simp; omega))])); rw [World.cell?_alloc_at _ _ _ _ (by simp)]; rfl)
            have y9 := Kep.all g1 (a := ⟨w.heap.size + 1 + 1, 9, none⟩) (v := .int .i32 y.vy) (by (repeat (first | rw [World.cell?_drew] | rw [World.cell?_alloc_past _ _ _ (by first | (simp; done) | (simp; omega))])); rw [World.cell?_alloc_at _ _ _ _ (by simp)]; rfl)
            have z0 := Kep.all g1 (a := ⟨w.heap.size + 1 + 1 + 1, 0, none⟩) (v := .int .u32 x.k) (by (repeat (first | rw [World.cell?_drew] | rw [World.cell?_alloc_past _ _ _ (by first | (simp; done) | (simp; omega))])); rw [World.cell?_alloc_at _ _ _ _ (by simp)]; rfl)
            have z1 := Kep.all g1 (a := ⟨w.heap.size + 1 + 1 + 1, 1, none⟩) (v := .int .i32 x.r) (by (repeat (first | rw [World.cell?_drew] | rw [World.cell?_alloc_past _ _ _ (by first | (simp; done) | (simp; omega))])); rw [World.cell?_alloc_at _ _ _ _ (by simp)]; rfl)
            have z2 := Kep.all g1 (a := ⟨w.heap.size + 1 + 1 + 1, 2, none⟩) (v := .int .i32 x.ax) (by (repeat (first | rw [World.cell?_drew] | rw [World.cell?_alloc_past _ _ _ (by first | (simp; done) | (simp; omega))])); rw [World.cell?_alloc_at _ _ _ _ (by simp)]; rfl)
            have z3 := Kep.all g1 (a := ⟨w.heap.size + 1 + 1 + 1, 3, none⟩) (v := .int .i32 x.ay) (by (repeat (first | rw [World.cell?_drew] | rw [World.cell?_alloc_past _ _ _ (by first | (simp; done) | (simp; omega))])); rw [World.cell?_alloc_at _ _ _ _ (by simp)]; rfl)
            have z4 := Kep.all g1 (a := ⟨w.heap.size + 1 + 1 + 1, 4, none⟩) (v := .int .i32 x.m) (by (repeat (first | rw [World.cell?_drew] | rw [World.cell?_alloc_past _ _ _ (by first | (simp; done) | (simp; omega))])); rw [World.cell?_alloc_at _ _ _ _ (by simp)]; rfl)
            have z5 := Kep.all g1 (a := ⟨w.heap.size + 1 + 1 + 1, 5, none⟩) (v := .int .i32 o) (by (repeat (first | rw [World.cell?_drew] | rw [World.cell?_alloc_past _ _ _ (by first | (simp; done) | (simp; omega))])); rw [World.cell?_alloc_at _ _ _ _ (by simp)]; rfl)
            have z6 := Kep.all g1 (a := ⟨w.heap.size + 1 + 1 + 1, 6, none⟩) (v := .int .i32 x.px) (by (repeat (first | rw [World.cell?_drew] | rw [World.cell?_alloc_past _ _ _ (by first | (simp; done) | (simp; omega))])); rw [World.cell?_alloc_at _ _ _ _ (by simp)]; rfl)
            have z7 := Kep.all g1 (a := ⟨w.heap.size + 1 + 1 + 1, 7, none⟩) (v := .int .i32 x.py) (by (repeat (first | rw [World.cell?_drew] | rw [World.cell?_alloc_past _ _ _ (by first | (simp; done) | (simp; omega))])); rw [World.cell?_alloc_at _ _ _ _ (by simp)]; rfl)
            have z8 := Kep.all g1 (a := ⟨w.heap.size + 1 + 1 + 1, 8, none⟩) (v := .int .i32 x.vx) (by (repeat (first | rw [World.cell?_drew] | rw [World.cell?_alloc_past _ _ _ (by first | (simp; done) | (simp; omega))])); rw [World.cell?_alloc_at _ _ _ _ (by simp)]; rfl)
            have z9 := Kep.all g1 (a := ⟨w.heap.size + 1 + 1 + 1, 9, none⟩) (v := .int .i32 x.vy) (by (repeat (first | rw [World.cell?_drew] | rw [World.cell?_alloc_past _ _ _ (by first | (simp; done) | (simp; omega))])); rw [World.cell?_alloc_at _ _ _ _ (by simp)]; rfl)
            have gg := kep_next (kep_more (kep_more (kep_more (kep_more (Kep.refl _ _) _) _) _) _) g1
            have zc_w1 : w.heap.size < w1.heap.size := World.block_lt_of_cell? _ _ c0
            have zx_w1 : w.heap.size + 1 < w1.heap.size := World.block_lt_of_cell? _ _ x0
            have zy_w1 : w.heap.size + 1 + 1 < w1.heap.size := World.block_lt_of_cell? _ _ y0
            have zz_w1 : w.heap.size + 1 + 1 + 1 < w1.heap.size := World.block_lt_of_cell? _ _ z0))
    | ((with_reducible refine (RR.out _).mono ?_); rintro e w2 ⟨rfl, g2⟩
       replace c0 := Kep.all g2 (a := ⟨w.heap.size, 0, none⟩) (v := .int .u32 lo) c0
       replace c1 := Kep.all g2 (a := ⟨w.heap.size, 1, none⟩) (v := .int .u32 hi) c1
       replace c2 := Kep.all g2 (a := ⟨w.heap.size, 2, none⟩) (v := .int .i32 nx) c2
       replace c3 := Kep.all g2 (a := ⟨w.heap.size, 3, none⟩) (v := .int .i32 ny) c3
       replace c4 := Kep.all g2 (a := ⟨w.heap.size, 4, none⟩) (v := .int .i32 dp) c4
       replace x0 := Kep.all g2 (a := ⟨w.heap.size + 1, 0, none⟩) (v := .int .u32 x.k) x0
       replace x1 := Kep.all g2 (a := ⟨w.heap.size + 1, 1, none⟩) (v := .int .i32 x.r) x1
       replace x2 := Kep.all g2 (a := ⟨w.heap.size + 1, 2, none⟩) (v := .int .i32 x.ax) x2
       replace x3 := Kep.all g2 (a := ⟨w.heap.size + 1, 3, none⟩) (v := .int .i32 x.ay) x3
       replace x4 := Kep.all g2 (a := ⟨w.heap.size + 1, 4, none⟩) (v := .int .i32 x.m) x4
       replace x5 := Kep.all g2 (a := ⟨w.heap.size + 1, 5, none⟩) (v := .int .i32 x.o) x5
       replace x6 := Kep.all g2 (a := ⟨w.heap.size + 1, 6, none⟩) (v := .int .i32 x.px) x6
       replace x7 := Kep.all g2 (a := ⟨w.heap.size + 1, 7, none⟩) (v := .int .i32 x.py) x7
       replace x8 := Kep.all g2 (a := ⟨w.heap.size + 1, 8, none⟩) (v := .int .i32 x.vx) x8
       replace x9 := Kep.all g2 (a := ⟨w.heap.size + 1, 9, none⟩) (v := .int .i32 x.vy) x9
       replace y0 := Kep.all g2 (a := ⟨w.heap.size + 1 + 1, 0, none⟩) (v := .int .u32 y.k) y0
       replace y1 := Kep.all g2 (a := ⟨w.heap.size + 1 + 1, 1, none⟩) (v := .int .i32 y.r) y1
       replace y2 := Kep.all g2 (a := ⟨w.heap.size + 1 + 1, 2, none⟩) (v := .int .i32 y.ax) y2
       replace y3 := Kep.all g2 (a := ⟨w.heap.size + 1 + 1, 3, none⟩) (v := .int .i32 y.ay) y3
       replace y4 := Kep.all g2 (a := ⟨w.heap.size + 1 + 1, 4, none⟩) (v := .int .i32 y.m) y4
       replace y5 := Kep.all g2 (a := ⟨w.heap.size + 1 + 1, 5, none⟩) (v := .int .i32 y.o) y5
       replace y6 := Kep.all g2 (a := ⟨w.heap.size + 1 + 1, 6, none⟩) (v := .int .i32 y.px) y6
       replace y7 := Kep.all g2 (a := ⟨w.heap.size + 1 + 1, 7, none⟩) (v := .int .i32 y.py) y7
       replace y8 := Kep.all g2 (a := ⟨w.heap.size + 1 + 1, 8, none⟩) (v := .int .i32 y.vx) y8
       replace y9 := Kep.all g2 (a := ⟨w.heap.size + 1 + 1, 9, none⟩) (v := .int .i32 y.vy) y9
       replace z0 := Kep.all g2 (a := ⟨w.heap.size + 1 + 1 + 1, 0, none⟩) (v := .int .u32 x.k) z0
       replace z1 := Kep.all g2 (a := ⟨w.heap.size + 1 + 1 + 1, 1, none⟩) (v := .int .i32 x.r) z1
       replace z2 := Kep.all g2 (a := ⟨w.heap.size + 1 + 1 + 1, 2, none⟩) (v := .int .i32 x.ax) z2
       replace z3 := Kep.all g2 (a := ⟨w.heap.size + 1 + 1 + 1, 3, none⟩) (v := .int .i32 x.ay) z3
       replace z4 := Kep.all g2 (a := ⟨w.heap.size + 1 + 1 + 1, 4, none⟩) (v := .int .i32 x.m) z4
       replace z5 := Kep.all g2 (a := ⟨w.heap.size + 1 + 1 + 1, 5, none⟩) (v := .int .i32 o) z5
       replace z6 := Kep.all g2 (a := ⟨w.heap.size + 1 + 1 + 1, 6, none⟩) (v := .int .i32 x.px) z6
       replace z7 := Kep.all g2 (a := ⟨w.heap.size + 1 + 1 + 1, 7, none⟩) (v := .int .i32 x.py) z7
       replace z8 := Kep.all g2 (a := ⟨w.heap.size + 1 + 1 + 1, 8, none⟩) (v := .int .i32 x.vx) z8
       replace z9 := Kep.all g2 (a := ⟨w.heap.size + 1 + 1 + 1, 9, none⟩) (v := .int .i32 x.vy) z9
       replace gg := kep_next gg g2
       have zc_w2 : w.heap.size < w2.heap.size := World.block_lt_of_cell? _ _ c0
       have zx_w2 : w.heap.size + 1 < w2.heap.size := World.block_lt_of_cell? _ _ x0
       have zy_w2 : w.heap.size + 1 + 1 < w2.heap.size := World.block_lt_of_cell? _ _ y0
       have zz_w2 : w.heap.size + 1 + 1 + 1 < w2.heap.size := World.block_lt_of_cell? _ _ z0)
    | ((with_reducible refine (R2.out _).mono ?_); rintro e w3 ⟨rfl, g3⟩
       replace c0 := Kep.all g3 (a := ⟨w.heap.size, 0, none⟩) (v := .int .u32 lo) c0
       replace c1 := Kep.all g3 (a := ⟨w.heap.size, 1, none⟩) (v := .int .u32 hi) c1
       replace c2 := Kep.all g3 (a := ⟨w.heap.size, 2, none⟩) (v := .int .i32 nx) c2
       replace c3 := Kep.all g3 (a := ⟨w.heap.size, 3, none⟩) (v := .int .i32 ny) c3
       replace c4 := Kep.all g3 (a := ⟨w.heap.size, 4, none⟩) (v := .int .i32 dp) c4
       replace x0 := Kep.all g3 (a := ⟨w.heap.size + 1, 0, none⟩) (v := .int .u32 x.k) x0
       replace x1 := Kep.all g3 (a := ⟨w.heap.size + 1, 1, none⟩) (v := .int .i32 x.r) x1
       replace x2 := Kep.all g3 (a := ⟨w.heap.size + 1, 2, none⟩) (v := .int .i32 x.ax) x2
       replace x3 := Kep.all g3 (a := ⟨w.heap.size + 1, 3, none⟩) (v := .int .i32 x.ay) x3
       replace x4 := Kep.all g3 (a := ⟨w.heap.size + 1, 4, none⟩) (v := .int .i32 x.m) x4
       replace x5 := Kep.all g3 (a := ⟨w.heap.size + 1, 5, none⟩) (v := .int .i32 x.o) x5
       replace x6 := Kep.all g3 (a := ⟨w.heap.size + 1, 6, none⟩) (v := .int .i32 x.px) x6
       replace x7 := Kep.all g3 (a := ⟨w.heap.size + 1, 7, none⟩) (v := .int .i32 x.py) x7
       replace x8 := Kep.all g3 (a := ⟨w.heap.size + 1, 8, none⟩) (v := .int .i32 x.vx) x8
       replace x9 := Kep.all g3 (a := ⟨w.heap.size + 1, 9, none⟩) (v := .int .i32 x.vy) x9
       replace y0 := Kep.all g3 (a := ⟨w.heap.size + 1 + 1, 0, none⟩) (v := .int .u32 y.k) y0
       replace y1 := Kep.all g3 (a := ⟨w.heap.size + 1 + 1, 1, none⟩) (v := .int .i32 y.r) y1
       replace y2 := Kep.all g3 (a := ⟨w.heap.size + 1 + 1, 2, none⟩) (v := .int .i32 y.ax) y2
       replace y3 := Kep.all g3 (a := ⟨w.heap.size + 1 + 1, 3, none⟩) (v := .int .i32 y.ay) y3
       replace y4 := Kep.all g3 (a := ⟨w.heap.size + 1 + 1, 4, none⟩) (v := .int .i32 y.m) y4
       replace y5 := Kep.all g3 (a := ⟨w.heap.size + 1 + 1, 5, none⟩) (v := .int .i32 y.o) y5
       replace y6 := Kep.all g3 (a := ⟨w.heap.size + 1 + 1, 6, none⟩) (v := .int .i32 y.px) y6
       replace y7 := Kep.all g3 (a := ⟨w.heap.size + 1 + 1, 7, none⟩) (v := .int .i32 y.py) y7
       replace y8 := Kep.all g3 (a := ⟨w.heap.size + 1 + 1, 8, none⟩) (v := .int .i32 y.vx) y8
       replace y9 := Kep.all g3 (a := ⟨w.heap.size + 1 + 1, 9, none⟩) (v := .int .i32 y.vy) y9
       replace z0 := Kep.all g3 (a := ⟨w.heap.size + 1 + 1 + 1, 0, none⟩) (v := .int .u32 x.k) z0
       replace z1 := Kep.all g3 (a := ⟨w.heap.size + 1 + 1 + 1, 1, none⟩) (v := .int .i32 x.r) z1
       replace z2 := Kep.all g3 (a := ⟨w.heap.size + 1 + 1 + 1, 2, none⟩) (v := .int .i32 x.ax) z2
       replace z3 := Kep.all g3 (a := ⟨w.heap.size + 1 + 1 + 1, 3, none⟩) (v := .int .i32 x.ay) z3
       replace z4 := Kep.all g3 (a := ⟨w.heap.size + 1 + 1 + 1, 4, none⟩) (v := .int .i32 x.m) z4
       replace z5 := Kep.all g3 (a := ⟨w.heap.size + 1 + 1 + 1, 5, none⟩) (v := .int .i32 o) z5
       replace z6 := Kep.all g3 (a := ⟨w.heap.size + 1 + 1 + 1, 6, none⟩) (v := .int .i32 x.px) z6
       replace z7 := Kep.all g3 (a := ⟨w.heap.size + 1 + 1 + 1, 7, none⟩) (v := .int .i32 x.py) z7
       replace z8 := Kep.all g3 (a := ⟨w.heap.size + 1 + 1 + 1, 8, none⟩) (v := .int .i32 x.vx) z8
       replace z9 := Kep.all g3 (a := ⟨w.heap.size + 1 + 1 + 1, 9, none⟩) (v := .int .i32 x.vy) z9
       replace gg := kep_next gg g3
       have zc_w3 : w.heap.size < w3.heap.size := World.block_lt_of_cell? _ _ c0
       have zx_w3 : w.heap.size + 1 < w3.heap.size := World.block_lt_of_cell? _ _ x0
       have zy_w3 : w.heap.size + 1 + 1 < w3.heap.size := World.block_lt_of_cell? _ _ y0
       have zz_w3 : w.heap.size + 1 + 1 + 1 < w3.heap.size := World.block_lt_of_cell? _ _ z0))
  go_ret
  exact ⟨rfl, gg⟩
set_option maxRecDepth 100000 in
set_option maxHeartbeats 4000000 in
theorem ibl_main (AW : Hid IAwake) (lo hi nx ny dp o : Int) (x y : Bd) (j k j2 j3 : Int) (RR : Hid (JRi lo hi nx ny dp x y true)) (R2 : Hid (∀ w, Calls Try.prog 9 #[.agg #[.int .u32 lo, .int .u32 hi, .int .i32 nx, .int .i32 ny, .int .i32 dp], .agg #[.int .u32 x.k, .int .i32 x.r, .int .i32 x.ax, .int .i32 x.ay, .int .i32 x.m, .int .i32 o, .int .i32 x.px, .int .i32 x.py, .int .i32 x.vx, .int .i32 x.vy], .agg #[.int .u32 y.k, .int .i32 y.r, .int .i32 y.ax, .int .i32 y.ay, .int .i32 y.m, .int .i32 y.o, .int .i32 y.px, .int .i32 y.py, .int .i32 y.vx, .int .i32 y.vy]] w fun e w' => e = .returned (.bool true) ∧ Kep w.heap.size w w')) (q0 : decide (o < x.o) = false) (C1 : Hid (ISt lo hi nx ny dp x y j)) (C2 : Hid (∀ w, Calls Try.prog 13 #[.agg #[.int .u32 lo, .int .u32 hi, .int .i32 nx, .int .i32 ny, .int .i32 dp], .agg #[.int .u32 x.k, .int .i32 x.r, .int .i32 x.ax, .int .i32 x.ay, .int .i32 x.m, .int .i32 o, .int .i32 x.px, .int .i32 x.py, .int .i32 x.vx, .int .i32 x.vy], .agg #[.int .u32 y.k, .int .i32 y.r, .int .i32 y.ax, .int .i32 y.ay, .int .i32 y.m, .int .i32 y.o, .int .i32 y.px, .int .i32 y.py, .int .i32 y.vx, .int .i32 y.vy]] w fun e w' => e = .returned (.int .i64 k) ∧ Kep w.heap.size w w'))
    (a1 : IntKind.i64.wrap (2 * j) = j2) (a2 : IntKind.i64.wrap (j2 + 2) = j3) (q1 : decide (j ≤ k) = true) (q2 : decide (k ≤ j3) = true) (w : World) : Calls Try.prog 7 #[.agg #[.int .u32 lo, .int .u32 hi, .int .i32 nx, .int .i32 ny, .int .i32 dp], .agg #[.int .u32 x.k, .int .i32 x.r, .int .i32 x.ax, .int .i32 x.ay, .int .i32 x.m, .int .i32 x.o, .int .i32 x.px, .int .i32 x.py, .int .i32 x.vx, .int .i32 x.vy], .agg #[.int .u32 y.k, .int .i32 y.r, .int .i32 y.ax, .int .i32 y.ay, .int .i32 y.m, .int .i32 y.o, .int .i32 y.px, .int .i32 y.py, .int .i32 y.vx, .int .i32 y.vy], .int .i32 o] w fun e w' => e = .returned (.bool true) ∧ Kep w.heap.size w w' := by
  go_enter Try.func7, Try.ntmps7
  go_wp2_with (first
    | ((with_reducible refine (AW.out _).mono ?_); rintro e w1 ⟨rfl, g1⟩
       have c0 := Kep.all g1 (a := ⟨w.heap.size, 0, none⟩) (v := .int .u32 lo) (by (repeat (first | rw [World.cell?_drew] | rw [World.cell?_alloc_past _ _ _ (by first | (simp; done) | (simp; omega))])); rw [World.cell?_alloc_at _ _ _ _ (by simp)]; rfl)
       have c1 := Kep.all g1 (a := ⟨w.heap.size, 1, none⟩) (v := .int .u32 hi) (by (repeat (first | rw [World.cell?_drew] | rw [World.cell?_alloc_past _ _ _ (by first | (simp; done) | (simp; omega))])); rw [World.cell?_alloc_at _ _ _ _ (by simp)]; rfl)
       have c2 := Kep.all g1 (a := ⟨w.heap.size, 2, none⟩) (v := .int .i32 nx) (by (repeat (first | rw [World.cell?_drew] | rw [World.cell?_alloc_past _ _ _ (by first | (simp; done) | (simp; omega))])); rw [World.cell?_alloc_at _ _ _ _ (by simp)]; rfl)
       have c3 := Kep.all g1 (a := ⟨w.heap.size, 3, none⟩) (v := .int .i32 ny) (by (repeat (first | rw [World.cell?_drew] | rw [World.cell?_alloc_past _ _ _ (by first | (simp; done) | (simp; omega))])); rw [World.cell?_alloc_at _ _ _ _ (by simp)]; rfl)
       have c4 := Kep.all g1 (a := ⟨w.heap.size, 4, none⟩) (v := .int .i32 dp) (by (repeat (first | rw [World.cell?_drew] | rw [World.cell?_alloc_past _ _ _ (by first | (simp; done) | (simp; omega))])); rw [World.cell?_alloc_at _ _ _ _ (by simp)]; rfl)
       have x0 := Kep.all g1 (a := ⟨w.heap.size + 1, 0, none⟩) (v := .int .u32 x.k) (by (repeat (first | rw [World.cell?_drew] | rw [World.cell?_alloc_past _ _ _ (by first | (simp; done) | (simp; omega))])); rw [World.cell?_alloc_at _ _ _ _ (by simp)]; rfl)
       have x1 := Kep.all g1 (a := ⟨w.heap.size + 1, 1, none⟩) (v := .int .i32 x.r) (by (repeat (first | rw [World.cell?_drew] | rw [World.cell?_alloc_past _ _ _ (by first | (simp; done) | (simp; omega))])); rw [World.cell?_alloc_at _ _ _ _ (by simp)]; rfl)
       have x2 := Kep.all g1 (a := ⟨w.heap.size + 1, 2, none⟩) (v := .int .i32 x.ax) (by (repeat (first | rw [World.cell?_drew] | rw [World.cell?_alloc_past _ _ _ (by first | (simp; done) | (simp; omega))])); rw [World.cell?_alloc_at _ _ _ _ (by simp)]; rfl)
       have x3 := Kep.all g1 (a := ⟨w.heap.size + 1, 3, none⟩) (v := .int .i32 x.ay) (by (repeat (first | rw [World.cell?_drew] | rw [World.cell?_alloc_past _ _ _ (by first | (simp; done) | (simp; omega))])); rw [World.cell?_alloc_at _ _ _ _ (by simp)]; rfl)
       have x4 := Kep.all g1 (a := ⟨w.heap.size + 1, 4, none⟩) (v := .int .i32 x.m) (by (repeat (first | rw [World.cell?_drew] | rw [World.cell?_alloc_past _ _ _ (by first | (simp; done) | (simp; omega))])); rw [World.cell?_alloc_at _ _ _ _ (by simp)]; rfl)
       have x5 := Kep.all g1 (a := ⟨w.heap.size + 1, 5, none⟩) (v := .int .i32 x.o) (by (repeat (first | rw [World.cell?_drew] | rw [World.cell?_alloc_past _ _ _ (by first | (simp; done) | (simp; omega))])); rw [World.cell?_alloc_at _ _ _ _ (by simp)]; rfl)
       have x6 := Kep.all g1 (a := ⟨w.heap.size + 1, 6, none⟩) (v := .int .i32 x.px) (by (repeat (first | rw [World.cell?_drew] | rw [World.cell?_alloc_past _ _ _ (by first | (simp; done) | (simp; omega))])); rw [World.cell?_alloc_at _ _ _ _ (by simp)]; rfl)
       have x7 := Kep.all g1 (a := ⟨w.heap.size + 1, 7, none⟩) (v := .int .i32 x.py) (by (repeat (first | rw [World.cell?_drew] | rw [World.cell?_alloc_past _ _ _ (by first | (simp; done) | (simp; omega))])); rw [World.cell?_alloc_at _ _ _ _ (by simp)]; rfl)
       have x8 := Kep.all g1 (a := ⟨w.heap.size + 1, 8, none⟩) (v := .int .i32 x.vx) (by (repeat (first | rw [World.cell?_drew] | rw [World.cell?_alloc_past _ _ _ (by first | (simp; done) | (simp; omega))])); rw [World.cell?_alloc_at _ _ _ _ (by simp)]; rfl)
       have x9 := Kep.all g1 (a := ⟨w.heap.size + 1, 9, none⟩) (v := .int .i32 x.vy) (by (repeat (first | rw [World.cell?_drew] | rw [World.cell?_alloc_past _ _ _ (by first | (simp; done) | (simp; omega))])); rw [World.cell?_alloc_at _ _ _ _ (by simp)]; rfl)
       have y0 := Kep.all g1 (a := ⟨w.heap.size + 1 + 1, 0, none⟩) (v := .int .u32 y.k) (by (repeat (first | rw [World.cell?_drew] | rw [World.cell?_alloc_past _ _ _ (by first | (simp; done) | (simp; omega))])); rw [World.cell?_alloc_at _ _ _ _ (by simp)]; rfl)
       have y1 := Kep.all g1 (a := ⟨w.heap.size + 1 + 1, 1, none⟩) (v := .int .i32 y.r) (by (repeat (first | rw [World.cell?_drew] | rw [World.cell?_alloc_past _ _ _ (by first | (simp; done) | (simp; omega))])); rw [World.cell?_alloc_at _ _ _ _ (by simp)]; rfl)
       have y2 := Kep.all g1 (a := ⟨w.heap.size + 1 + 1, 2, none⟩) (v := .int .i32 y.ax) (by (repeat (first | rw [World.cell?_drew] | rw [World.cell?_alloc_past _ _ _ (by first | (simp; done) | (simp; omega))])); rw [World.cell?_alloc_at _ _ _ _ (by simp)]; rfl)
       have y3 := Kep.all g1 (a := ⟨w.heap.size + 1 + 1, 3, none⟩) (v := .int .i32 y.ay) (by (repeat (first | rw [World.cell?_drew] | rw [World.cell?_alloc_past _ _ _ (by first | (simp; done) | (simp; omega))])); rw [World.cell?_alloc_at _ _ _ _ (by simp)]; rfl)
       have y4 := Kep.all g1 (a := ⟨w.heap.size + 1 + 1, 4, none⟩) (v := .int .i32 y.m) (by (repeat (first | rw [World.cell?_drew] | rw [World.cell?_alloc_past _ _ _ (by first | (simp; done) | (simp; omega))])); rw [World.cell?_alloc_at _ _ _ _ (by simp)]; rfl)
       have y5 := Kep.all g1 (a := ⟨w.heap.size + 1 + 1, 5, none⟩) (v := .int .i32 y.o) (by (repeat (first | rw [World.cell?_drew] | rw [World.cell?_alloc_past _ _ _ (by first | (simp; done) | (simp; omega))])); rw [World.cell?_alloc_at _ _ _ _ (by simp)]; rfl)
       have y6 := Kep.all g1 (a := ⟨w.heap.size + 1 + 1, 6, none⟩) (v := .int .i32 y.px) (by (repeat (first | rw [World.cell?_drew] | rw [World.cell?_alloc_past _ _ _ (by first | (simp; done) | (simp; omega))])); rw [World.cell?_alloc_at _ _ _ _ (by simp)]; rfl)
       have y7 := Kep.all g1 (a := ⟨w.heap.size + 1 + 1, 7, none⟩) (v := .int .i32 y.py) (by (repeat (first | rw [World.cell?_drew] | rw [World.cell?_alloc_past _ _ _ (by first | (simp; done) | (simp; omega))])); rw [World.cell?_alloc_at _ _ _ _ (by simp)]; rfl)
       have y8 := Kep.all g1 (a := ⟨w.heap.size + 1 + 1, 8, none⟩) (v := .int .i32 y.vx) (by (repeat (first | rw [World.cell?_drew] | rw [World.cell?_alloc_past _ _ _ (by first | (simp; done) | (simp; omega))])); rw [World.cell?_alloc_at _ _ _ _ (by simp)]; rfl)
       have y9 := Kep.all g1 (a := ⟨w.heap.size + 1 + 1, 9, none⟩) (v := .int .i32 y.vy) (by (repeat (first | rw [World.cell?_drew] | rw [World.cell?_alloc_past _ _ _ (by first | (simp; done) | (simp; omega))])); rw [World.cell?_alloc_at _ _ _ _ (by simp)]; rfl)
       have z0 := Kep.all g1 (a := ⟨w.heap.size + 1 + 1 + 1, 0, none⟩) (v := .int .u32 x.k) (by (repeat (first | rw [World.cell?_drew] | rw [World.cell?_alloc_past _ _ _ (by first | (simp; done) | (simp; omega))])); rw [World.cell?_alloc_at _ _ _ _ (by simp)]; rfl)
       have z1 := Kep.all g1 (a := ⟨w.heap.size + 1 + 1 + 1, 1, none⟩) (v := .int .i32 x.r) (by (repeat (first | rw [World.cell?_drew] | rw [World.cell?_alloc_past _ _ _ (by first | (simp; done) | (simp; omega))])); rw [World.cell?_alloc_at _ _ _ _ (by simp)]; rfl)
       have z2 := Kep.all g1 (a := ⟨w.heap.size + 1 + 1 + 1, 2, none⟩) (v := .int .i32 x.ax) (by (repeat (first | rw [World.cell?_drew] | rw [World.cell?_alloc_past _ _ _ (by first | (simp; done) | (simp; omega))])); rw [World.cell?_alloc_at _ _ _ _ (by simp)]; rfl)
       have z3 := Kep.all g1 (a := ⟨w.heap.size + 1 + 1 + 1, 3, none⟩) (v := .int .i32 x.ay) (by (repeat (first | rw [World.cell?_drew] | rw [World.cell?_alloc_past _ _ _ (by first | (simp; done) | (simp; omega))])); rw [World.cell?_alloc_at _ _ _ _ (by simp)]; rfl)
       have z4 := Kep.all g1 (a := ⟨w.heap.size + 1 + 1 + 1, 4, none⟩) (v := .int .i32 x.m) (by (repeat (first | rw [World.cell?_drew] | rw [World.cell?_alloc_past _ _ _ (by first | (simp; done) | (simp; omega))])); rw [World.cell?_alloc_at _ _ _ _ (by simp)]; rfl)
       have z5 := Kep.all g1 (a := ⟨w.heap.size + 1 + 1 + 1, 5, none⟩) (v := .int .i32 o) (by (repeat (first | rw [World.cell?_drew] | rw [World.cell?_alloc_past _ _ _ (by first | (simp; done) | (simp; omega))])); rw [World.cell?_alloc_at _ _ _ _ (by simp)]; rfl)
       have z6 := Kep.all g1 (a := ⟨w.heap.size + 1 + 1 + 1, 6, none⟩) (v := .int .i32 x.px) (by (repeat (first | rw [World.cell?_drew] | rw [World.cell?_alloc_past _ _ _ (by first | (simp; done) | (simp; omega))])); rw [World.cell?_alloc_at _ _ _ _ (by simp)]; rfl)
       have z7 := Kep.all g1 (a := ⟨w.heap.size + 1 + 1 + 1, 7, none⟩) (v := .int .i32 x.py) (by (repeat (first | rw [World.cell?_drew] | rw [World.cell?_alloc_past _ _ _ (by first | (simp; done) | (simp; omega))])); rw [World.cell?_alloc_at _ _ _ _ (by simp)]; rfl)
       have z8 := Kep.all g1 (a := ⟨w.heap.size + 1 + 1 + 1, 8, none⟩) (v := .int .i32 x.vx) (by (repeat (first | rw [World.cell?_drew] | rw [World.cell?_alloc_past _ _ _ (by first | (simp; done) | (simp; omega))])); rw [World.cell?_alloc_at _ _ _ _ (by simp)]; rfl)
       have z9 := Kep.all g1 (a := ⟨w.heap.size + 1 + 1 + 1, 9, none⟩) (v := .int .i32 x.vy) (by (repeat (first | rw [World.cell?_drew] | rw [World.cell?_alloc_past _ _ _ (by first | (simp; done) | (simp; omega))])); rw [World.cell?_alloc_at _ _ _ _ (by simp)]; rfl)
       have gg := kep_next (kep_more (kep_more (kep_more (kep_more (Kep.refl _ _) _) _) _) _) g1
       have zc_w1 : w.heap.size < w1.heap.size := World.block_lt_of_cell? _ _ c0
       have zx_w1 : w.heap.size + 1 < w1.heap.size := World.block_lt_of_cell? _ _ x0
       have zy_w1 : w.heap.size + 1 + 1 < w1.heap.size := World.block_lt_of_cell? _ _ y0
       have zz_w1 : w.heap.size + 1 + 1 + 1 < w1.heap.size := World.block_lt_of_cell? _ _ z0)
    | ((with_reducible refine (RR.out _).mono ?_); rintro e w2 ⟨rfl, g2⟩
       replace c0 := Kep.all g2 (a := ⟨w.heap.size, 0, none⟩) (v := .int .u32 lo) c0
       replace c1 := Kep.all g2 (a := ⟨w.heap.size, 1, none⟩) (v := .int .u32 hi) c1
       replace c2 := Kep.all g2 (a := ⟨w.heap.size, 2, none⟩) (v := .int .i32 nx) c2
       replace c3 := Kep.all g2 (a := ⟨w.heap.size, 3, none⟩) (v := .int .i32 ny) c3
       replace c4 := Kep.all g2 (a := ⟨w.heap.size, 4, none⟩) (v := .int .i32 dp) c4
       replace x0 := Kep.all g2 (a := ⟨w.heap.size + 1, 0, none⟩) (v := .int .u32 x.k) x0
       replace x1 := Kep.all g2 (a := ⟨w.heap.size + 1, 1, none⟩) (v := .int .i32 x.r) x1
       replace x2 := Kep.all g2 (a := ⟨w.heap.size + 1, 2, none⟩) (v := .int .i32 x.ax) x2
       replace x3 := Kep.all g2 (a := ⟨w.heap.size + 1, 3, none⟩) (v := .int .i32 x.ay) x3
       replace x4 := Kep.all g2 (a := ⟨w.heap.size + 1, 4, none⟩) (v := .int .i32 x.m) x4
       replace x5 := Kep.all g2 (a := ⟨w.heap.size + 1, 5, none⟩) (v := .int .i32 x.o) x5
       replace x6 := Kep.all g2 (a := ⟨w.heap.size + 1, 6, none⟩) (v := .int .i32 x.px) x6
       replace x7 := Kep.all g2 (a := ⟨w.heap.size + 1, 7, none⟩) (v := .int .i32 x.py) x7
       replace x8 := Kep.all g2 (a := ⟨w.heap.size + 1, 8, none⟩) (v := .int .i32 x.vx) x8
       replace x9 := Kep.all g2 (a := ⟨w.heap.size + 1, 9, none⟩) (v := .int .i32 x.vy) x9
       replace y0 := Kep.all g2 (a := ⟨w.heap.size + 1 + 1, 0, none⟩) (v := .int .u32 y.k) y0
       replace y1 := Kep.all g2 (a := ⟨w.heap.size + 1 + 1, 1, none⟩) (v := .int .i32 y.r) y1
       replace y2 := Kep.all g2 (a := ⟨w.heap.size + 1 + 1, 2, none⟩) (v := .int .i32 y.ax) y2
       replace y3 := Kep.all g2 (a := ⟨w.heap.size + 1 + 1, 3, none⟩) (v := .int .i32 y.ay) y3
       replace y4 := Kep.all g2 (a := ⟨w.heap.size + 1 + 1, 4, none⟩) (v := .int .i32 y.m) y4
       replace y5 := Kep.all g2 (a := ⟨w.heap.size + 1 + 1, 5, none⟩) (v := .int .i32 y.o) y5
       replace y6 := Kep.all g2 (a := ⟨w.heap.size + 1 + 1, 6, none⟩) (v := .int .i32 y.px) y6
       replace y7 := Kep.all g2 (a := ⟨w.heap.size + 1 + 1, 7, none⟩) (v := .int .i32 y.py) y7
       replace y8 := Kep.all g2 (a := ⟨w.heap.size + 1 + 1, 8, none⟩) (v := .int .i32 y.vx) y8
       replace y9 := Kep.all g2 (a := ⟨w.heap.size + 1 + 1, 9, none⟩) (v := .int .i32 y.vy) y9
       replace z0 := Kep.all g2 (a := ⟨w.heap.size + 1 + 1 + 1, 0, none⟩) (v := .int .u32 x.k) z0
       replace z1 := Kep.all g2 (a := ⟨w.heap.size + 1 + 1 + 1, 1, none⟩) (v := .int .i32 x.r) z1
       replace z2 := Kep.all g2 (a := ⟨w.heap.size + 1 + 1 + 1, 2, none⟩) (v := .int .i32 x.ax) z2
       replace z3 := Kep.all g2 (a := ⟨w.heap.size + 1 + 1 + 1, 3, none⟩) (v := .int .i32 x.ay) z3
       replace z4 := Kep.all g2 (a := ⟨w.heap.size + 1 + 1 + 1, 4, none⟩) (v := .int .i32 x.m) z4
       replace z5 := Kep.all g2 (a := ⟨w.heap.size + 1 + 1 + 1, 5, none⟩) (v := .int .i32 o) z5
       replace z6 := Kep.all g2 (a := ⟨w.heap.size + 1 + 1 + 1, 6, none⟩) (v := .int .i32 x.px) z6
       replace z7 := Kep.all g2 (a := ⟨w.heap.size + 1 + 1 + 1, 7, none⟩) (v := .int .i32 x.py) z7
       replace z8 := Kep.all g2 (a := ⟨w.heap.size + 1 + 1 + 1, 8, none⟩) (v := .int .i32 x.vx) z8
       replace z9 := Kep.all g2 (a := ⟨w.heap.size + 1 + 1 + 1, 9, none⟩) (v := .int .i32 x.vy) z9
       replace gg := kep_next gg g2
       have zc_w2 : w.heap.size < w2.heap.size := World.block_lt_of_cell? _ _ c0
       have zx_w2 : w.heap.size + 1 < w2.heap.size := World.block_lt_of_cell? _ _ x0
       have zy_w2 : w.heap.size + 1 + 1 < w2.heap.size := World.block_lt_of_cell? _ _ y0
       have zz_w2 : w.heap.size + 1 + 1 + 1 < w2.heap.size := World.block_lt_of_cell? _ _ z0)
    | ((with_reducible refine (R2.out _).mono ?_); rintro e w3 ⟨rfl, g3⟩
       replace c0 := Kep.all g3 (a := ⟨w.heap.size, 0, none⟩) (v := .int .u32 lo) c0
       replace c1 := Kep.all g3 (a := ⟨w.heap.size, 1, none⟩) (v := .int .u32 hi) c1
       replace c2 := Kep.all g3 (a := ⟨w.heap.size, 2, none⟩) (v := .int .i32 nx) c2
       replace c3 := Kep.all g3 (a := ⟨w.heap.size, 3, none⟩) (v := .int .i32 ny) c3
       replace c4 := Kep.all g3 (a := ⟨w.heap.size, 4, none⟩) (v := .int .i32 dp) c4
       replace x0 := Kep.all g3 (a := ⟨w.heap.size + 1, 0, none⟩) (v := .int .u32 x.k) x0
       replace x1 := Kep.all g3 (a := ⟨w.heap.size + 1, 1, none⟩) (v := .int .i32 x.r) x1
       replace x2 := Kep.all g3 (a := ⟨w.heap.size + 1, 2, none⟩) (v := .int .i32 x.ax) x2
       replace x3 := Kep.all g3 (a := ⟨w.heap.size + 1, 3, none⟩) (v := .int .i32 x.ay) x3
       replace x4 := Kep.all g3 (a := ⟨w.heap.size + 1, 4, none⟩) (v := .int .i32 x.m) x4
       replace x5 := Kep.all g3 (a := ⟨w.heap.size + 1, 5, none⟩) (v := .int .i32 x.o) x5
       replace x6 := Kep.all g3 (a := ⟨w.heap.size + 1, 6, none⟩) (v := .int .i32 x.px) x6
       replace x7 := Kep.all g3 (a := ⟨w.heap.size + 1, 7, none⟩) (v := .int .i32 x.py) x7
       replace x8 := Kep.all g3 (a := ⟨w.heap.size + 1, 8, none⟩) (v := .int .i32 x.vx) x8
       replace x9 := Kep.all g3 (a := ⟨w.heap.size + 1, 9, none⟩) (v := .int .i32 x.vy) x9
       replace y0 := Kep.all g3 (a := ⟨w.heap.size + 1 + 1, 0, none⟩) (v := .int .u32 y.k) y0
       replace y1 := Kep.all g3 (a := ⟨w.heap.size + 1 + 1, 1, none⟩) (v := .int .i32 y.r) y1
       replace y2 := Kep.all g3 (a := ⟨w.heap.size + 1 + 1, 2, none⟩) (v := .int .i32 y.ax) y2
       replace y3 := Kep.all g3 (a := ⟨w.heap.size + 1 + 1, 3, none⟩) (v := .int .i32 y.ay) y3
       replace y4 := Kep.all g3 (a := ⟨w.heap.size + 1 + 1, 4, none⟩) (v := .int .i32 y.m) y4
       replace y5 := Kep.all g3 (a := ⟨w.heap.size + 1 + 1, 5, none⟩) (v := .int .i32 y.o) y5
       replace y6 := Kep.all g3 (a := ⟨w.heap.size + 1 + 1, 6, none⟩) (v := .int .i32 y.px) y6
       replace y7 := Kep.all g3 (a := ⟨w.heap.size + 1 + 1, 7, none⟩) (v := .int .i32 y.py) y7
       replace y8 := Kep.all g3 (a := ⟨w.heap.size + 1 + 1, 8, none⟩) (v := .int .i32 y.vx) y8
       replace y9 := Kep.all g3 (a := ⟨w.heap.size + 1 + 1, 9, none⟩) (v := .int .i32 y.vy) y9
       replace z0 := Kep.all g3 (a := ⟨w.heap.size + 1 + 1 + 1, 0, none⟩) (v := .int .u32 x.k) z0
       replace z1 := Kep.all g3 (a := ⟨w.heap.size + 1 + 1 + 1, 1, none⟩) (v := .int .i32 x.r) z1
       replace z2 := Kep.all g3 (a := ⟨w.heap.size + 1 + 1 + 1, 2, none⟩) (v := .int .i32 x.ax) z2
       replace z3 := Kep.all g3 (a := ⟨w.heap.size + 1 + 1 + 1, 3, none⟩) (v := .int .i32 x.ay) z3
       replace z4 := Kep.all g3 (a := ⟨w.heap.size + 1 + 1 + 1, 4, none⟩) (v := .int .i32 x.m) z4
       replace z5 := Kep.all g3 (a := ⟨w.heap.size + 1 + 1 + 1, 5, none⟩) (v := .int .i32 o) z5
       replace z6 := Kep.all g3 (a := ⟨w.heap.size + 1 + 1 + 1, 6, none⟩) (v := .int .i32 x.px) z6
       replace z7 := Kep.all g3 (a := ⟨w.heap.size + 1 + 1 + 1, 7, none⟩) (v := .int .i32 x.py) z7
       replace z8 := Kep.all g3 (a := ⟨w.heap.size + 1 + 1 + 1, 8, none⟩) (v := .int .i32 x.vx) z8
       replace z9 := Kep.all g3 (a := ⟨w.heap.size + 1 + 1 + 1, 9, none⟩) (v := .int .i32 x.vy) z9
       replace gg := kep_next gg g3
       have zc_w3 : w.heap.size < w3.heap.size := World.block_lt_of_cell? _ _ c0
       have zx_w3 : w.heap.size + 1 < w3.heap.size := World.block_lt_of_cell? _ _ x0
       have zy_w3 : w.heap.size + 1 + 1 < w3.heap.size := World.block_lt_of_cell? _ _ y0
       have zz_w3 : w.heap.size + 1 + 1 + 1 < w3.heap.size := World.block_lt_of_cell? _ _ z0)
    | ((with_reducible refine (C1.out _).mono ?_); rintro e w4 ⟨rfl, g4⟩
       replace c0 := Kep.all g4 (a := ⟨w.heap.size, 0, none⟩) (v := .int .u32 lo) c0
       replace c1 := Kep.all g4 (a := ⟨w.heap.size, 1, none⟩) (v := .int .u32 hi) c1
       replace c2 := Kep.all g4 (a := ⟨w.heap.size, 2, none⟩) (v := .int .i32 nx) c2
       replace c3 := Kep.all g4 (a := ⟨w.heap.size, 3, none⟩) (v := .int .i32 ny) c3
       replace c4 := Kep.all g4 (a := ⟨w.heap.size, 4, none⟩) (v := .int .i32 dp) c4
       replace x0 := Kep.all g4 (a := ⟨w.heap.size + 1, 0, none⟩) (v := .int .u32 x.k) x0
       replace x1 := Kep.all g4 (a := ⟨w.heap.size + 1, 1, none⟩) (v := .int .i32 x.r) x1
       replace x2 := Kep.all g4 (a := ⟨w.heap.size + 1, 2, none⟩) (v := .int .i32 x.ax) x2
       replace x3 := Kep.all g4 (a := ⟨w.heap.size + 1, 3, none⟩) (v := .int .i32 x.ay) x3
       replace x4 := Kep.all g4 (a := ⟨w.heap.size + 1, 4, none⟩) (v := .int .i32 x.m) x4
       replace x5 := Kep.all g4 (a := ⟨w.heap.size + 1, 5, none⟩) (v := .int .i32 x.o) x5
       replace x6 := Kep.all g4 (a := ⟨w.heap.size + 1, 6, none⟩) (v := .int .i32 x.px) x6
       replace x7 := Kep.all g4 (a := ⟨w.heap.size + 1, 7, none⟩) (v := .int .i32 x.py) x7
       replace x8 := Kep.all g4 (a := ⟨w.heap.size + 1, 8, none⟩) (v := .int .i32 x.vx) x8
       replace x9 := Kep.all g4 (a := ⟨w.heap.size + 1, 9, none⟩) (v := .int .i32 x.vy) x9
       replace y0 := Kep.all g4 (a := ⟨w.heap.size + 1 + 1, 0, none⟩) (v := .int .u32 y.k) y0
       replace y1 := Kep.all g4 (a := ⟨w.heap.size + 1 + 1, 1, none⟩) (v := .int .i32 y.r) y1
       replace y2 := Kep.all g4 (a := ⟨w.heap.size + 1 + 1, 2, none⟩) (v := .int .i32 y.ax) y2
       replace y3 := Kep.all g4 (a := ⟨w.heap.size + 1 + 1, 3, none⟩) (v := .int .i32 y.ay) y3
       replace y4 := Kep.all g4 (a := ⟨w.heap.size + 1 + 1, 4, none⟩) (v := .int .i32 y.m) y4
       replace y5 := Kep.all g4 (a := ⟨w.heap.size + 1 + 1, 5, none⟩) (v := .int .i32 y.o) y5
       replace y6 := Kep.all g4 (a := ⟨w.heap.size + 1 + 1, 6, none⟩) (v := .int .i32 y.px) y6
       replace y7 := Kep.all g4 (a := ⟨w.heap.size + 1 + 1, 7, none⟩) (v := .int .i32 y.py) y7
       replace y8 := Kep.all g4 (a := ⟨w.heap.size + 1 + 1, 8, none⟩) (v := .int .i32 y.vx) y8
       replace y9 := Kep.all g4 (a := ⟨w.heap.size + 1 + 1, 9, none⟩) (v := .int .i32 y.vy) y9
       replace z0 := Kep.all g4 (a := ⟨w.heap.size + 1 + 1 + 1, 0, none⟩) (v := .int .u32 x.k) z0
       replace z1 := Kep.all g4 (a := ⟨w.heap.size + 1 + 1 + 1, 1, none⟩) (v := .int .i32 x.r) z1
       replace z2 := Kep.all g4 (a := ⟨w.heap.size + 1 + 1 + 1, 2, none⟩) (v := .int .i32 x.ax) z2
       replace z3 := Kep.all g4 (a := ⟨w.heap.size + 1 + 1 + 1, 3, none⟩) (v := .int .i32 x.ay) z3
       replace z4 := Kep.all g4 (a := ⟨w.heap.size + 1 + 1 + 1, 4, none⟩) (v := .int .i32 x.m) z4
       replace z5 := Kep.all g4 (a := ⟨w.heap.size + 1 + 1 + 1, 5, none⟩) (v := .int .i32 o) z5
       replace z6 := Kep.all g4 (a := ⟨w.heap.size + 1 + 1 + 1, 6, none⟩) (v := .int .i32 x.px) z6
       replace z7 := Kep.all g4 (a := ⟨w.heap.size + 1 + 1 + 1, 7, none⟩) (v := .int .i32 x.py) z7
       replace z8 := Kep.all g4 (a := ⟨w.heap.size + 1 + 1 + 1, 8, none⟩) (v := .int .i32 x.vx) z8
       replace z9 := Kep.all g4 (a := ⟨w.heap.size + 1 + 1 + 1, 9, none⟩) (v := .int .i32 x.vy) z9
       replace gg := kep_next gg g4
       have zc_w4 : w.heap.size < w4.heap.size := World.block_lt_of_cell? _ _ c0
       have zx_w4 : w.heap.size + 1 < w4.heap.size := World.block_lt_of_cell? _ _ x0
       have zy_w4 : w.heap.size + 1 + 1 < w4.heap.size := World.block_lt_of_cell? _ _ y0
       have zz_w4 : w.heap.size + 1 + 1 + 1 < w4.heap.size := World.block_lt_of_cell? _ _ z0)
    | ((with_reducible refine (C2.out _).mono ?_); rintro e w5 ⟨rfl, g5⟩
       replace c0 := Kep.all g5 (a := ⟨w.heap.size, 0, none⟩) (v := .int .u32 lo) c0
       replace c1 := Kep.all g5 (a := ⟨w.heap.size, 1, none⟩) (v := .int .u32 hi) c1
       replace c2 := Kep.all g5 (a := ⟨w.heap.size, 2, none⟩) (v := .int .i32 nx) c2
       replace c3 := Kep.all g5 (a := ⟨w.heap.size, 3, none⟩) (v := .int .i32 ny) c3
       replace c4 := Kep.all g5 (a := ⟨w.heap.size, 4, none⟩) (v := .int .i32 dp) c4
       replace x0 := Kep.all g5 (a := ⟨w.heap.size + 1, 0, none⟩) (v := .int .u32 x.k) x0
       replace x1 := Kep.all g5 (a := ⟨w.heap.size + 1, 1, none⟩) (v := .int .i32 x.r) x1
       replace x2 := Kep.all g5 (a := ⟨w.heap.size + 1, 2, none⟩) (v := .int .i32 x.ax) x2
       replace x3 := Kep.all g5 (a := ⟨w.heap.size + 1, 3, none⟩) (v := .int .i32 x.ay) x3
       replace x4 := Kep.all g5 (a := ⟨w.heap.size + 1, 4, none⟩) (v := .int .i32 x.m) x4
       replace x5 := Kep.all g5 (a := ⟨w.heap.size + 1, 5, none⟩) (v := .int .i32 x.o) x5
       replace x6 := Kep.all g5 (a := ⟨w.heap.size + 1, 6, none⟩) (v := .int .i32 x.px) x6
       replace x7 := Kep.all g5 (a := ⟨w.heap.size + 1, 7, none⟩) (v := .int .i32 x.py) x7
       replace x8 := Kep.all g5 (a := ⟨w.heap.size + 1, 8, none⟩) (v := .int .i32 x.vx) x8
       replace x9 := Kep.all g5 (a := ⟨w.heap.size + 1, 9, none⟩) (v := .int .i32 x.vy) x9
       replace y0 := Kep.all g5 (a := ⟨w.heap.size + 1 + 1, 0, none⟩) (v := .int .u32 y.k) y0
       replace y1 := Kep.all g5 (a := ⟨w.heap.size + 1 + 1, 1, none⟩) (v := .int .i32 y.r) y1
       replace y2 := Kep.all g5 (a := ⟨w.heap.size + 1 + 1, 2, none⟩) (v := .int .i32 y.ax) y2
       replace y3 := Kep.all g5 (a := ⟨w.heap.size + 1 + 1, 3, none⟩) (v := .int .i32 y.ay) y3
       replace y4 := Kep.all g5 (a := ⟨w.heap.size + 1 + 1, 4, none⟩) (v := .int .i32 y.m) y4
       replace y5 := Kep.all g5 (a := ⟨w.heap.size + 1 + 1, 5, none⟩) (v := .int .i32 y.o) y5
       replace y6 := Kep.all g5 (a := ⟨w.heap.size + 1 + 1, 6, none⟩) (v := .int .i32 y.px) y6
       replace y7 := Kep.all g5 (a := ⟨w.heap.size + 1 + 1, 7, none⟩) (v := .int .i32 y.py) y7
       replace y8 := Kep.all g5 (a := ⟨w.heap.size + 1 + 1, 8, none⟩) (v := .int .i32 y.vx) y8
       replace y9 := Kep.all g5 (a := ⟨w.heap.size + 1 + 1, 9, none⟩) (v := .int .i32 y.vy) y9
       replace z0 := Kep.all g5 (a := ⟨w.heap.size + 1 + 1 + 1, 0, none⟩) (v := .int .u32 x.k) z0
       replace z1 := Kep.all g5 (a := ⟨w.heap.size + 1 + 1 + 1, 1, none⟩) (v := .int .i32 x.r) z1
       replace z2 := Kep.all g5 (a := ⟨w.heap.size + 1 + 1 + 1, 2, none⟩) (v := .int .i32 x.ax) z2
       replace z3 := Kep.all g5 (a := ⟨w.heap.size + 1 + 1 + 1, 3, none⟩) (v := .int .i32 x.ay) z3
       replace z4 := Kep.all g5 (a := ⟨w.heap.size + 1 + 1 + 1, 4, none⟩) (v := .int .i32 x.m) z4
       replace z5 := Kep.all g5 (a := ⟨w.heap.size + 1 + 1 + 1, 5, none⟩) (v := .int .i32 o) z5
       replace z6 := Kep.all g5 (a := ⟨w.heap.size + 1 + 1 + 1, 6, none⟩) (v := .int .i32 x.px) z6
       replace z7 := Kep.all g5 (a := ⟨w.heap.size + 1 + 1 + 1, 7, none⟩) (v := .int .i32 x.py) z7
       replace z8 := Kep.all g5 (a := ⟨w.heap.size + 1 + 1 + 1, 8, none⟩) (v := .int .i32 x.vx) z8
       replace z9 := Kep.all g5 (a := ⟨w.heap.size + 1 + 1 + 1, 9, none⟩) (v := .int .i32 x.vy) z9
       replace gg := kep_next gg g5
       have zc_w5 : w.heap.size < w5.heap.size := World.block_lt_of_cell? _ _ c0
       have zx_w5 : w.heap.size + 1 < w5.heap.size := World.block_lt_of_cell? _ _ x0
       have zy_w5 : w.heap.size + 1 + 1 < w5.heap.size := World.block_lt_of_cell? _ _ y0
       have zz_w5 : w.heap.size + 1 + 1 + 1 < w5.heap.size := World.block_lt_of_cell? _ _ z0))
  go_ret
  exact ⟨rfl, gg⟩
theorem ediv_mono {a b c : Int} (h : a ≤ b) (hc : 0 < c) : a / c ≤ b / c := Int.ediv_le_ediv hc h
theorem two_ediv (a c : Int) (hc : 0 < c) : 2 * a / c ≤ 2 * (a / c) + 1 := by
  have h1 := Int.emod_add_mul_ediv a c
  have h2 := Int.emod_lt_of_pos a hc
  have h3 : 2 * a / c < 2 * (a / c) + 2 := Int.ediv_lt_of_lt_mul hc (by
    generalize a / c = q at *
    have e : (2 * q + 2) * c = 2 * (c * q) + 2 * c := by grind
    omega)
  omega
/-- What a greater bounce does. -/
theorem st_bounce {nx ny o : Int} {x y : Bd} (hx : Vb x) (hx2 : Vb { x with o := o }) (hy : Vb y) (h : x.o ≤ o) : stI nx ny x y ≤ stI nx ny { x with o := o } y ∧ stI nx ny { x with o := o } y ≤ 2 * stI nx ny x y + 2 := by
  have ea : apI nx ny { x with o := o } y = apI nx ny x y := rfl
  unfold stI
  rw [ea]
  show _ ≤ (if 0 ≤ apI nx ny x y ∨ x.m + y.m = 0 then 0 else -(apI nx ny x y) * (65536 + bnI { x with o := o } y) / (x.m + y.m)) ∧ (if 0 ≤ apI nx ny x y ∨ x.m + y.m = 0 then 0 else -(apI nx ny x y) * (65536 + bnI { x with o := o } y) / (x.m + y.m)) ≤ _
  by_cases c : 0 ≤ apI nx ny x y ∨ x.m + y.m = 0
  · rw [if_pos c, if_pos c]
    omega
  · rw [if_neg c, if_neg c]
    have b1 := bn_bd hx hy
    have b2 := bn_bd hx2 hy
    have b3 : bnI x y ≤ bnI { x with o := o } y := by
      show max x.o y.o ≤ max o y.o
      omega
    have hM : 0 < x.m + y.m := by have := hx.m0; have := hy.m0; omega
    obtain ⟨A, hA⟩ : ∃ A, A = -(apI nx ny x y) := ⟨_, rfl⟩
    have hA0 : 0 ≤ A := by omega
    rw [← hA]
    generalize bnI { x with o := o } y = B' at *
    generalize bnI x y = B at *
    generalize x.m + y.m = M at *
    have p1 : A * (65536 + B) ≤ A * (65536 + B') := Int.mul_le_mul_of_nonneg_left (by omega) hA0
    have p2 : A * (65536 + B') ≤ A * (2 * (65536 + B)) := Int.mul_le_mul_of_nonneg_left (by omega) hA0
    have e : A * (2 * (65536 + B)) = 2 * (A * (65536 + B)) := by grind
    rw [e] at p2
    have q1 := ediv_mono p1 hM
    have q2 := ediv_mono p2 hM
    have q3 := two_ediv (A * (65536 + B)) M hM
    omega
/-- The law ImpulseBounces. -/
theorem ibl_law (O : IOps) (AW : IAwake) (lo hi nx ny dp o : Int) (x y : Bd) (w : World) : Calls Try.prog 7 #[.agg #[.int .u32 lo, .int .u32 hi, .int .i32 nx, .int .i32 ny, .int .i32 dp], .agg #[.int .u32 x.k, .int .i32 x.r, .int .i32 x.ax, .int .i32 x.ay, .int .i32 x.m, .int .i32 x.o, .int .i32 x.px, .int .i32 x.py, .int .i32 x.vx, .int .i32 x.vy], .agg #[.int .u32 y.k, .int .i32 y.r, .int .i32 y.ax, .int .i32 y.ay, .int .i32 y.m, .int .i32 y.o, .int .i32 y.px, .int .i32 y.py, .int .i32 y.vx, .int .i32 y.vy], .int .i32 o] w fun e w' => e = .returned (.bool true) ∧ Kep w.heap.size w w' := by
  cases hr : imB nx ny x y
  · exact ibl_b1 (Lib.hid AW) lo hi nx ny dp o x y (Lib.hid (jri lo hi nx ny dp x y false hr)) w
  · have RR := Lib.hid (jri lo hi nx ny dp x y true hr)
    cases hr2 : imB nx ny { x with o := o } y
    · exact ibl_b2 (Lib.hid AW) lo hi nx ny dp o x y RR (Lib.hid (jri lo hi nx ny dp { x with o := o } y false hr2)) w
    · have R2 := jri lo hi nx ny dp { x with o := o } y true hr2
      by_cases hlt : o < x.o
      · exact ibl_b3 (Lib.hid AW) lo hi nx ny dp o x y RR (Lib.hid R2) (decide_eq_true hlt) w
      · obtain ⟨hx, hy, h1, h2⟩ := imB_iff.1 hr
        obtain ⟨hx2, _, _, _⟩ := imB_iff.1 hr2
        have sb := st_bd (Vb.of hx) (Vb.of hy) h1 h2
        have h := st_bounce (nx := nx) (ny := ny) (Vb.of hx) (Vb.of hx2) (Vb.of hy) (Int.not_lt.1 hlt)
        have C1 := O.str (lo := lo) (hi := hi) (dp := dp) hx hy h1 h2
        have C2 := O.str (lo := lo) (hi := hi) (dp := dp) hx2 hy h1 h2
        generalize stI nx ny { x with o := o } y = k at *
        generalize stI nx ny x y = j at *
        exact ibl_main (Lib.hid AW) lo hi nx ny dp o x y j k (2 * j) (2 * j + 2) RR (Lib.hid R2) (decide_eq_false hlt) (Lib.hid C1) (Lib.hid C2) (by rw [IntKind.wrap_i64]; omega) (by rw [IntKind.wrap_i64]; omega) (decide_eq_true h.1) (decide_eq_true h.2) w
end Go.Proofs.Ytnmlknjjbonenaa
