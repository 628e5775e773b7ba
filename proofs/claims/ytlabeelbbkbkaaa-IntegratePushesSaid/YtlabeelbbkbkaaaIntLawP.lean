/-
  Package integrate: the law IntegratePushes.
-/
import Derived.Test.YtlabeelbbkbkaaaIntCon
import Derived.Deep.DeepCutAuto
import Derived.Deep.QuietTactic
import Derived.BigQuiet
namespace Go.Proofs.Ytlabeelbbkbkaaa
open Go.RowKit Go.Lib

theorem body_eqI (x : Bd) (w : World) : (binOp .eql 37 (.agg #[.int .u32 x.k, .int .i32 x.r, .int .i32 x.ax, .int .i32 x.ay, .int .i32 x.m, .int .i32 x.o, .int .i32 x.px, .int .i32 x.py, .int .i32 x.vx, .int .i32 x.vy]) (.agg #[.int .u32 x.k, .int .i32 x.r, .int .i32 x.ax, .int .i32 x.ay, .int .i32 x.m, .int .i32 x.o, .int .i32 x.px, .int .i32 x.py, .int .i32 x.vx, .int .i32 x.vy])).run Try.prog w = .ok (.bool true) w := by simp [go_sem]
set_option maxRecDepth 100000 in
set_option maxHeartbeats 2000000 in
theorem ypl_bad (AW : Hid YAwake) (x : Bd) (j k : Int) (c : Int) (CX : Hid (YCk x c)) (h0 : (c != 0) = true) (w : World) : Calls Try.prog 6 #[.agg #[.int .u32 x.k, .int .i32 x.r, .int .i32 x.ax, .int .i32 x.ay, .int .i32 x.m, .int .i32 x.o, .int .i32 x.px, .int .i32 x.py, .int .i32 x.vx, .int .i32 x.vy], .agg #[.int .i32 j, .int .i32 k]] w fun e w' => e = .returned (.bool true) ∧ Kep w.heap.size w w' := by
  go_enter Try.func6, Try.ntmps6
  go_wp2_with (first
    | ((with_reducible refine (AW.out _).mono ?_); rintro e w1 ⟨rfl, g1⟩
       first
         | (replace gg := kep_next gg g1)
         | (have b0 := Kep.all g1 (a := ⟨w.heap.size, 0, none⟩) (v := .int .u32 x.k) (by (repeat (first | rw [World.cell?_drew] | rw [World.cell?_alloc_past _ _ _ (by first | (simp; done) | (simp; omega))])); rw [World.cell?_alloc_at _ _ _ _ (by simp)]; rfl)
            have b1 := Kep.all g1 (a := ⟨w.heap.size, 1, none⟩) (v := .int .i32 x.r) (by (repeat (first | rw [World.cell?_drew] | rw [World.cell?_alloc_past _ _ _ (by first | (simp; done) | (simp; omega))])); rw [World.cell?_alloc_at _ _ _ _ (by simp)]; rfl)
            have b2 := Kep.all g1 (a := ⟨w.heap.size, 2, none⟩) (v := .int .i32 x.ax) (by (repeat (first | rw [World.cell?_drew] | rw [World.cell?_alloc_past _ _ _ (by first | (simp; done) | (simp; omega))])); rw [World.cell?_alloc_at _ _ _ _ (by simp)]; rfl)
            have b3 := Kep.all g1 (a := ⟨w.heap.size, 3, none⟩) (v := .int .i32 x.ay) (by (repeat (first | rw [World.cell?_drew] | rw [World.cell?_alloc_past _ _ _ (by first | (simp; done) | (simp; omega))])); rw [World.cell?_alloc_at _ _ _ _ (by simp)]; rfl)
            have b4 := Kep.all g1 (a := ⟨w.heap.size, 4, none⟩) (v := .int .i32 x.m) (by (repeat (first | rw [World.cell?_drew] | rw [World.cell?_alloc_past _ _ _ (by first | (simp; done) | (simp; omega))])); rw [World.cell?_alloc_at _ _ _ _ (by simp)]; rfl)
            have b5 := Kep.all g1 (a := ⟨w.heap.size, 5, none⟩) (v := .int .i32 x.o) (by (repeat (first | rw [World.cell?_drew] | rw [World.cell?_alloc_past _ _ _ (by first | (simp; done) | (simp; omega))])); rw [World.cell?_alloc_at _ _ _ _ (by simp)]; rfl)
            have b6 := Kep.all g1 (a := ⟨w.heap.size, 6, none⟩) (v := .int .i32 x.px) (by (repeat (first | rw [World.cell?_drew] | rw [World.cell?_alloc_past _ _ _ (by first | (simp; done) | (simp; omega))])); rw [World.cell?_alloc_at _ _ _ _ (by simp)]; rfl)
            have b7 := Kep.all g1 (a := ⟨w.heap.size, 7, none⟩) (v := .int .i32 x.py) (by (repeat (first | rw [World.cell?_drew] | rw [World.cell?_alloc_past _ _ _ (by first | (simp; done) | (simp; omega))])); rw [World.cell?_alloc_at _ _ _ _ (by simp)]; rfl)
            have b8 := Kep.all g1 (a := ⟨w.heap.size, 8, none⟩) (v := .int .i32 x.vx) (by (repeat (first | rw [World.cell?_drew] | rw [World.cell?_alloc_past _ _ _ (by first | (simp; done) | (simp; omega))])); rw [World.cell?_alloc_at _ _ _ _ (by simp)]; rfl)
            have b9 := Kep.all g1 (a := ⟨w.heap.size, 9, none⟩) (v := .int .i32 x.vy) (by (repeat (first | rw [World.cell?_drew] | rw [World.cell?_alloc_past _ _ _ (by first | (simp; done) | (simp; omega))])); rw [World.cell?_alloc_at _ _ _ _ (by simp)]; rfl)
            have j0 := Kep.all g1 (a := ⟨w.heap.size + 1, 0, none⟩) (v := .int .i32 j) (by (repeat (first | rw [World.cell?_drew] | rw [World.cell?_alloc_past _ _ _ (by first | (simp; done) | (simp; omega))])); rw [World.cell?_alloc_at _ _ _ _ (by simp)]; rfl)
            have j1 := Kep.all g1 (a := ⟨w.heap.size + 1, 1, none⟩) (v := .int .i32 k) (by (repeat (first | rw [World.cell?_drew] | rw [World.cell?_alloc_past _ _ _ (by first | (simp; done) | (simp; omega))])); rw [World.cell?_alloc_at _ _ _ _ (by simp)]; rfl)
            have gg := kep_next (kep_more (kep_more (Kep.refl _ _) _) _) g1
            have zb_w1 : w.heap.size < w1.heap.size := World.block_lt_of_cell? _ _ b0
            have zj_w1 : w.heap.size + 1 < w1.heap.size := World.block_lt_of_cell? _ _ j0))
    | ((with_reducible refine (CX.out _).mono ?_); rintro e w2 ⟨rfl, g2⟩
       replace b0 := Kep.all g2 (a := ⟨w.heap.size, 0, none⟩) (v := .int .u32 x.k) b0
       replace b1 := Kep.all g2 (a := ⟨w.heap.size, 1, none⟩) (v := .int .i32 x.r) b1
       replace b2 := Kep.all g2 (a := ⟨w.heap.size, 2, none⟩) (v := .int .i32 x.ax) b2
       replace b3 := Kep.all g2 (a := ⟨w.heap.size, 3, none⟩) (v := .int .i32 x.ay) b3
       replace b4 := Kep.all g2 (a := ⟨w.heap.size, 4, none⟩) (v := .int .i32 x.m) b4
       replace b5 := Kep.all g2 (a := ⟨w.heap.size, 5, none⟩) (v := .int .i32 x.o) b5
       replace b6 := Kep.all g2 (a := ⟨w.heap.size, 6, none⟩) (v := .int .i32 x.px) b6
       replace b7 := Kep.all g2 (a := ⟨w.heap.size, 7, none⟩) (v := .int .i32 x.py) b7
       replace b8 := Kep.all g2 (a := ⟨w.heap.size, 8, none⟩) (v := .int .i32 x.vx) b8
       replace b9 := Kep.all g2 (a := ⟨w.heap.size, 9, none⟩) (v := .int .i32 x.vy) b9
       replace j0 := Kep.all g2 (a := ⟨w.heap.size + 1, 0, none⟩) (v := .int .i32 j) j0
       replace j1 := Kep.all g2 (a := ⟨w.heap.size + 1, 1, none⟩) (v := .int .i32 k) j1
       replace gg := kep_next gg g2
       have zb_w2 : w.heap.size < w2.heap.size := World.block_lt_of_cell? _ _ b0
       have zj_w2 : w.heap.size + 1 < w2.heap.size := World.block_lt_of_cell? _ _ j0))
  go_ret
  exact ⟨rfl, gg⟩
set_option maxRecDepth 100000 in
set_option maxHeartbeats 4000000 in
theorem ypl_main_t (AW : Hid YAwake) (x : Bd) (j k a b : Int) (z : Bool) (CX : Hid (YCk x 0)) (C1 : Hid (∀ w, Calls Try.prog 17 #[.agg #[.int .u32 x.k, .int .i32 x.r, .int .i32 x.ax, .int .i32 x.ay, .int .i32 x.m, .int .i32 x.o, .int .i32 x.px, .int .i32 x.py, .int .i32 x.vx, .int .i32 x.vy], .agg #[.int .i32 j, .int .i32 k]] w fun e w' => e = .returned (.tuple #[.agg #[.int .u32 x.k, .int .i32 x.r, .int .i32 x.ax, .int .i32 x.ay, .int .i32 x.m, .int .i32 x.o, .int .i32 x.px, .int .i32 x.py, .int .i32 a, .int .i32 b], .bool z]) ∧ Kep w.heap.size w w')) (C2 : Hid (∀ w, Calls Try.prog 17 #[.agg #[.int .u32 x.k, .int .i32 x.r, .int .i32 x.ax, .int .i32 x.ay, .int .i32 x.m, .int .i32 x.o, .int .i32 x.px, .int .i32 x.py, .int .i32 x.vx, .int .i32 x.vy], .agg #[.int .i32 0, .int .i32 0]] w fun e w' => e = .returned (.tuple #[.agg #[.int .u32 x.k, .int .i32 x.r, .int .i32 x.ax, .int .i32 x.ay, .int .i32 x.m, .int .i32 x.o, .int .i32 x.px, .int .i32 x.py, .int .i32 x.vx, .int .i32 x.vy], .bool false]) ∧ Kep w.heap.size w w')) (CP : Hid (∀ w, Calls Try.prog 19 #[.agg #[.int .u32 x.k, .int .i32 x.r, .int .i32 x.ax, .int .i32 x.ay, .int .i32 x.m, .int .i32 x.o, .int .i32 x.px, .int .i32 x.py, .int .i32 a, .int .i32 b]] w fun e w' => e = .returned (.int .i64 0) ∧ Kep w.heap.size w w')) (h0 : decide (0 < x.m) = true) (w : World) : Calls Try.prog 6 #[.agg #[.int .u32 x.k, .int .i32 x.r, .int .i32 x.ax, .int .i32 x.ay, .int .i32 x.m, .int .i32 x.o, .int .i32 x.px, .int .i32 x.py, .int .i32 x.vx, .int .i32 x.vy], .agg #[.int .i32 j, .int .i32 k]] w fun e w' => e = .returned (.bool true) ∧ Kep w.heap.size w w' := by
  have e1 := body_eqI x
  go_enter Try.func6, Try.ntmps6
  go_upto_region 7 with (first
    | ((with_reducible refine (AW.out _).mono ?_); rintro e w1 ⟨rfl, g1⟩
       have b0 := Kep.all g1 (a := ⟨w.heap.size, 0, none⟩) (v := .int .u32 x.k) (by (repeat (first | rw [World.cell?_drew] | rw [World.cell?_alloc_past _ _ _ (by first | (simp; done) | (simp; omega))])); rw [World.cell?_alloc_at _ _ _ _ (by simp)]; rfl)
       have b1 := Kep.all g1 (a := ⟨w.heap.size, 1, none⟩) (v := .int .i32 x.r) (by (repeat (first | rw [World.cell?_drew] | rw [World.cell?_alloc_past _ _ _ (by first | (simp; done) | (simp; omega))])); rw [World.cell?_alloc_at _ _ _ _ (by simp)]; rfl)
       have b2 := Kep.all g1 (a := ⟨w.heap.size, 2, none⟩) (v := .int .i32 x.ax) (by (repeat (first | rw [World.cell?_drew] | rw [World.cell?_alloc_past _ _ _ (by first | (simp; done) | (simp; omega))])); rw [World.cell?_alloc_at _ _ _ _ (by simp)]; rfl)
       have b3 := Kep.all g1 (a := ⟨w.heap.size, 3, none⟩) (v := .int .i32 x.ay) (by (repeat (first | rw [World.cell?_drew] | rw [World.cell?_alloc_past _ _ _ (by first | (simp; done) | (simp; omega))])); rw [World.cell?_alloc_at _ _ _ _ (by simp)]; rfl)
       have b4 := Kep.all g1 (a := ⟨w.heap.size, 4, none⟩) (v := .int .i32 x.m) (by (repeat (first | rw [World.cell?_drew] | rw [World.cell?_alloc_past _ _ _ (by first | (simp; done) | (simp; omega))])); rw [World.cell?_alloc_at _ _ _ _ (by simp)]; rfl)
       have b5 := Kep.all g1 (a := ⟨w.heap.size, 5, none⟩) (v := .int .i32 x.o) (by (repeat (first | rw [World.cell?_drew] | rw [World.cell?_alloc_past _ _ _ (by first | (simp; done) | (simp; omega))])); rw [World.cell?_alloc_at _ _ _ _ (by simp)]; rfl)
       have b6 := Kep.all g1 (a := ⟨w.heap.size, 6, none⟩) (v := .int .i32 x.px) (by (repeat (first | rw [World.cell?_drew] | rw [World.cell?_alloc_past _ _ _ (by first | (simp; done) | (simp; omega))])); rw [World.cell?_alloc_at _ _ _ _ (by simp)]; rfl)
       have b7 := Kep.all g1 (a := ⟨w.heap.size, 7, none⟩) (v := .int .i32 x.py) (by (repeat (first | rw [World.cell?_drew] | rw [World.cell?_alloc_past _ _ _ (by first | (simp; done) | (simp; omega))])); rw [World.cell?_alloc_at _ _ _ _ (by simp)]; rfl)
       have b8 := Kep.all g1 (a := ⟨w.heap.size, 8, none⟩) (v := .int .i32 x.vx) (by (repeat (first | rw [World.cell?_drew] | rw [World.cell?_alloc_past _ _ _ (by first | (simp; done) | (simp; omega))])); rw [World.cell?_alloc_at _ _ _ _ (by simp)]; rfl)
       have b9 := Kep.all g1 (a := ⟨w.heap.size, 9, none⟩) (v := .int .i32 x.vy) (by (repeat (first | rw [World.cell?_drew] | rw [World.cell?_alloc_past _ _ _ (by first | (simp; done) | (simp; omega))])); rw [World.cell?_alloc_at _ _ _ _ (by simp)]; rfl)
       have j0 := Kep.all g1 (a := ⟨w.heap.size + 1, 0, none⟩) (v := .int .i32 j) (by (repeat (first | rw [World.cell?_drew] | rw [World.cell?_alloc_past _ _ _ (by first | (simp; done) | (simp; omega))])); rw [World.cell?_alloc_at _ _ _ _ (by simp)]; rfl)
       have j1 := Kep.all g1 (a := ⟨w.heap.size + 1, 1, none⟩) (v := .int .i32 k) (by (repeat (first | rw [World.cell?_drew] | rw [World.cell?_alloc_past _ _ _ (by first | (simp; done) | (simp; omega))])); rw [World.cell?_alloc_at _ _ _ _ (by simp)]; rfl)
       have gg := kep_next (kep_more (kep_more (Kep.refl _ _) _) _) g1
       have zb_w1 : w.heap.size < w1.heap.size := World.block_lt_of_cell? _ _ b0
       have zj_w1 : w.heap.size + 1 < w1.heap.size := World.block_lt_of_cell? _ _ j0)
    | ((with_reducible refine (CX.out _).mono ?_); rintro e w2 ⟨rfl, g2⟩
       replace b0 := Kep.all g2 (a := ⟨w.heap.size, 0, none⟩) (v := .int .u32 x.k) b0
       replace b1 := Kep.all g2 (a := ⟨w.heap.size, 1, none⟩) (v := .int .i32 x.r) b1
       replace b2 := Kep.all g2 (a := ⟨w.heap.size, 2, none⟩) (v := .int .i32 x.ax) b2
       replace b3 := Kep.all g2 (a := ⟨w.heap.size, 3, none⟩) (v := .int .i32 x.ay) b3
       replace b4 := Kep.all g2 (a := ⟨w.heap.size, 4, none⟩) (v := .int .i32 x.m) b4
       replace b5 := Kep.all g2 (a := ⟨w.heap.size, 5, none⟩) (v := .int .i32 x.o) b5
       replace b6 := Kep.all g2 (a := ⟨w.heap.size, 6, none⟩) (v := .int .i32 x.px) b6
       replace b7 := Kep.all g2 (a := ⟨w.heap.size, 7, none⟩) (v := .int .i32 x.py) b7
       replace b8 := Kep.all g2 (a := ⟨w.heap.size, 8, none⟩) (v := .int .i32 x.vx) b8
       replace b9 := Kep.all g2 (a := ⟨w.heap.size, 9, none⟩) (v := .int .i32 x.vy) b9
       replace j0 := Kep.all g2 (a := ⟨w.heap.size + 1, 0, none⟩) (v := .int .i32 j) j0
       replace j1 := Kep.all g2 (a := ⟨w.heap.size + 1, 1, none⟩) (v := .int .i32 k) j1
       replace gg := kep_next gg g2
       have zb_w2 : w.heap.size < w2.heap.size := World.block_lt_of_cell? _ _ b0
       have zj_w2 : w.heap.size + 1 < w2.heap.size := World.block_lt_of_cell? _ _ j0)
    | ((with_reducible refine (C1.out _).mono ?_); rintro e w3 ⟨rfl, g3⟩
       replace b0 := Kep.all g3 (a := ⟨w.heap.size, 0, none⟩) (v := .int .u32 x.k) b0
       replace b1 := Kep.all g3 (a := ⟨w.heap.size, 1, none⟩) (v := .int .i32 x.r) b1
       replace b2 := Kep.all g3 (a := ⟨w.heap.size, 2, none⟩) (v := .int .i32 x.ax) b2
       replace b3 := Kep.all g3 (a := ⟨w.heap.size, 3, none⟩) (v := .int .i32 x.ay) b3
       replace b4 := Kep.all g3 (a := ⟨w.heap.size, 4, none⟩) (v := .int .i32 x.m) b4
       replace b5 := Kep.all g3 (a := ⟨w.heap.size, 5, none⟩) (v := .int .i32 x.o) b5
       replace b6 := Kep.all g3 (a := ⟨w.heap.size, 6, none⟩) (v := .int .i32 x.px) b6
       replace b7 := Kep.all g3 (a := ⟨w.heap.size, 7, none⟩) (v := .int .i32 x.py) b7
       replace b8 := Kep.all g3 (a := ⟨w.heap.size, 8, none⟩) (v := .int .i32 x.vx) b8
       replace b9 := Kep.all g3 (a := ⟨w.heap.size, 9, none⟩) (v := .int .i32 x.vy) b9
       replace j0 := Kep.all g3 (a := ⟨w.heap.size + 1, 0, none⟩) (v := .int .i32 j) j0
       replace j1 := Kep.all g3 (a := ⟨w.heap.size + 1, 1, none⟩) (v := .int .i32 k) j1
       replace gg := kep_next gg g3
       have zb_w3 : w.heap.size < w3.heap.size := World.block_lt_of_cell? _ _ b0
       have zj_w3 : w.heap.size + 1 < w3.heap.size := World.block_lt_of_cell? _ _ j0)
    | ((with_reducible refine (C2.out _).mono ?_); rintro e w4 ⟨rfl, g4⟩
       replace b0 := Kep.all g4 (a := ⟨w.heap.size, 0, none⟩) (v := .int .u32 x.k) (Kep.all (kep_more (Kep.refl _ _) _) b0)
       replace b1 := Kep.all g4 (a := ⟨w.heap.size, 1, none⟩) (v := .int .i32 x.r) (Kep.all (kep_more (Kep.refl _ _) _) b1)
       replace b2 := Kep.all g4 (a := ⟨w.heap.size, 2, none⟩) (v := .int .i32 x.ax) (Kep.all (kep_more (Kep.refl _ _) _) b2)
       replace b3 := Kep.all g4 (a := ⟨w.heap.size, 3, none⟩) (v := .int .i32 x.ay) (Kep.all (kep_more (Kep.refl _ _) _) b3)
       replace b4 := Kep.all g4 (a := ⟨w.heap.size, 4, none⟩) (v := .int .i32 x.m) (Kep.all (kep_more (Kep.refl _ _) _) b4)
       replace b5 := Kep.all g4 (a := ⟨w.heap.size, 5, none⟩) (v := .int .i32 x.o) (Kep.all (kep_more (Kep.refl _ _) _) b5)
       replace b6 := Kep.all g4 (a := ⟨w.heap.size, 6, none⟩) (v := .int .i32 x.px) (Kep.all (kep_more (Kep.refl _ _) _) b6)
       replace b7 := Kep.all g4 (a := ⟨w.heap.size, 7, none⟩) (v := .int .i32 x.py) (Kep.all (kep_more (Kep.refl _ _) _) b7)
       replace b8 := Kep.all g4 (a := ⟨w.heap.size, 8, none⟩) (v := .int .i32 x.vx) (Kep.all (kep_more (Kep.refl _ _) _) b8)
       replace b9 := Kep.all g4 (a := ⟨w.heap.size, 9, none⟩) (v := .int .i32 x.vy) (Kep.all (kep_more (Kep.refl _ _) _) b9)
       replace j0 := Kep.all g4 (a := ⟨w.heap.size + 1, 0, none⟩) (v := .int .i32 j) (Kep.all (kep_more (Kep.refl _ _) _) j0)
       replace j1 := Kep.all g4 (a := ⟨w.heap.size + 1, 1, none⟩) (v := .int .i32 k) (Kep.all (kep_more (Kep.refl _ _) _) j1)
       have p0 := Kep.all g4 (a := ⟨w3.heap.size, 0, none⟩) (v := .int .u32 x.k) (by (repeat (first | rw [World.cell?_drew] | rw [World.cell?_alloc_past _ _ _ (by first | (simp; done) | (simp; omega))])); rw [World.cell?_alloc_at _ _ _ _ (by simp)]; rfl)
       have p1 := Kep.all g4 (a := ⟨w3.heap.size, 1, none⟩) (v := .int .i32 x.r) (by (repeat (first | rw [World.cell?_drew] | rw [World.cell?_alloc_past _ _ _ (by first | (simp; done) | (simp; omega))])); rw [World.cell?_alloc_at _ _ _ _ (by simp)]; rfl)
       have p2 := Kep.all g4 (a := ⟨w3.heap.size, 2, none⟩) (v := .int .i32 x.ax) (by (repeat (first | rw [World.cell?_drew] | rw [World.cell?_alloc_past _ _ _ (by first | (simp; done) | (simp; omega))])); rw [World.cell?_alloc_at _ _ _ _ (by simp)]; rfl)
       have p3 := Kep.all g4 (a := ⟨w3.heap.size, 3, none⟩) (v := .int .i32 x.ay) (by (repeat (first | rw [World.cell?_drew] | rw [World.cell?_alloc_past _ _ _ (by first | (simp; done) | (simp; omega))])); rw [World.cell?_alloc_at _ _ _ _ (by simp)]; rfl)
       have p4 := Kep.all g4 (a := ⟨w3.heap.size, 4, none⟩) (v := .int .i32 x.m) (by (repeat (first | rw [World.cell?_drew] | rw [World.cell?_alloc_past _ _ _ (by first | (simp; done) | (simp; omega))])); rw [World.cell?_alloc_at _ _ _ _ (by simp)]; rfl)
       have p5 := Kep.all g4 (a := ⟨w3.heap.size, 5, none⟩) (v := .int .i32 x.o) (by (repeat (first | rw [World.cell?_drew] | rw [World.cell?_alloc_past _ _ _ (by first | (simp; done) | (simp; omega))])); rw [World.cell?_alloc_at _ _ _ _ (by simp)]; rfl)
       have p6 := Kep.all g4 (a := ⟨w3.heap.size, 6, none⟩) (v := .int .i32 x.px) (by (repeat (first | rw [World.cell?_drew] | rw [World.cell?_alloc_past _ _ _ (by first | (simp; done) | (simp; omega))])); rw [World.cell?_alloc_at _ _ _ _ (by simp)]; rfl)
       have p7 := Kep.all g4 (a := ⟨w3.heap.size, 7, none⟩) (v := .int .i32 x.py) (by (repeat (first | rw [World.cell?_drew] | rw [World.cell?_alloc_past _ _ _ (by first | (simp; done) | (simp; omega))])); rw [World.cell?_alloc_at _ _ _ _ (by simp)]; rfl)
       have p8 := Kep.all g4 (a := ⟨w3.heap.size, 8, none⟩) (v := .int .i32 a) (by (repeat (first | rw [World.cell?_drew] | rw [World.cell?_alloc_past _ _ _ (by first | (simp; done) | (simp; omega))])); rw [World.cell?_alloc_at _ _ _ _ (by simp)]; rfl)
       have p9 := Kep.all g4 (a := ⟨w3.heap.size, 9, none⟩) (v := .int .i32 b) (by (repeat (first | rw [World.cell?_drew] | rw [World.cell?_alloc_past _ _ _ (by first | (simp; done) | (simp; omega))])); rw [World.cell?_alloc_at _ _ _ _ (by simp)]; rfl)
       replace gg := kep_next (kep_more gg _) g4
       have zb_w4 : w.heap.size < w4.heap.size := World.block_lt_of_cell? _ _ b0
       have zj_w4 : w.heap.size + 1 < w4.heap.size := World.block_lt_of_cell? _ _ j0
       have zp_w4 : w3.heap.size < w4.heap.size := World.block_lt_of_cell? _ _ p0))
  generalize hW : World.alloc (World.alloc w4 _) _ = W5
  have k5 : Kep w4.heap.size w4 W5 := by rw [← hW]; exact kep_more (kep_more (Kep.refl _ _) _) _
  have z0 : W5.cell? ⟨w4.heap.size, 0, none⟩ = some (.int .u32 x.k) := by
    rw [← hW]
    (repeat (first | rw [World.cell?_drew] | rw [World.cell?_alloc_past _ _ _ (by first | (simp; done) | (simp; omega))])); rw [World.cell?_alloc_at _ _ _ _ (by simp)]; rfl
  have z1 : W5.cell? ⟨w4.heap.size, 1, none⟩ = some (.int .i32 x.r) := by
    rw [← hW]
    (repeat (first | rw [World.cell?_drew] | rw [World.cell?_alloc_past _ _ _ (by first | (simp; done) | (simp; omega))])); rw [World.cell?_alloc_at _ _ _ _ (by simp)]; rfl
  have z2 : W5.cell? ⟨w4.heap.size, 2, none⟩ = some (.int .i32 x.ax) := by
    rw [← hW]
    (repeat (first | rw [World.cell?_drew] | rw [World.cell?_alloc_past _ _ _ (by first | (simp; done) | (simp; omega))])); rw [World.cell?_alloc_at _ _ _ _ (by simp)]; rfl
  have z3 : W5.cell? ⟨w4.heap.size, 3, none⟩ = some (.int .i32 x.ay) := by
    rw [← hW]
    (repeat (first | rw [World.cell?_drew] | rw [World.cell?_alloc_past _ _ _ (by first | (simp; done) | (simp; omega))])); rw [World.cell?_alloc_at _ _ _ _ (by simp)]; rfl
  have z4 : W5.cell? ⟨w4.heap.size, 4, none⟩ = some (.int .i32 x.m) := by
    rw [← hW]
    (repeat (first | rw [World.cell?_drew] | rw [World.cell?_alloc_past _ _ _ (by first | (simp; done) | (simp; omega))])); rw [World.cell?_alloc_at _ _ _ _ (by simp)]; rfl
  have z5 : W5.cell? ⟨w4.heap.size, 5, none⟩ = some (.int .i32 x.o) := by
    rw [← hW]
    (repeat (first | rw [World.cell?_drew] | rw [World.cell?_alloc_past _ _ _ (by first | (simp; done) | (simp; omega))])); rw [World.cell?_alloc_at _ _ _ _ (by simp)]; rfl
  have z6 : W5.cell? ⟨w4.heap.size, 6, none⟩ = some (.int .i32 x.px) := by
    rw [← hW]
    (repeat (first | rw [World.cell?_drew] | rw [World.cell?_alloc_past _ _ _ (by first | (simp; done) | (simp; omega))])); rw [World.cell?_alloc_at _ _ _ _ (by simp)]; rfl
  have z7 : W5.cell? ⟨w4.heap.size, 7, none⟩ = some (.int .i32 x.py) := by
    rw [← hW]
    (repeat (first | rw [World.cell?_drew] | rw [World.cell?_alloc_past _ _ _ (by first | (simp; done) | (simp; omega))])); rw [World.cell?_alloc_at _ _ _ _ (by simp)]; rfl
  have z8 : W5.cell? ⟨w4.heap.size, 8, none⟩ = some (.int .i32 x.vx) := by
    rw [← hW]
    (repeat (first | rw [World.cell?_drew] | rw [World.cell?_alloc_past _ _ _ (by first | (simp; done) | (simp; omega))])); rw [World.cell?_alloc_at _ _ _ _ (by simp)]; rfl
  have z9 : W5.cell? ⟨w4.heap.size, 9, none⟩ = some (.int .i32 x.vy) := by
    rw [← hW]
    (repeat (first | rw [World.cell?_drew] | rw [World.cell?_alloc_past _ _ _ (by first | (simp; done) | (simp; omega))])); rw [World.cell?_alloc_at _ _ _ _ (by simp)]; rfl
  have q0 : W5.cell? ⟨w4.heap.size + 1, 0, none⟩ = some (.int .u32 x.k) := by
    rw [← hW]
    (repeat (first | rw [World.cell?_drew] | rw [World.cell?_alloc_past _ _ _ (by first | (simp; done) | (simp; omega))])); rw [World.cell?_alloc_at _ _ _ _ (by simp)]; rfl
  have q1 : W5.cell? ⟨w4.heap.size + 1, 1, none⟩ = some (.int .i32 x.r) := by
    rw [← hW]
    (repeat (first | rw [World.cell?_drew] | rw [World.cell?_alloc_past _ _ _ (by first | (simp; done) | (simp; omega))])); rw [World.cell?_alloc_at _ _ _ _ (by simp)]; rfl
  have q2 : W5.cell? ⟨w4.heap.size + 1, 2, none⟩ = some (.int .i32 x.ax) := by
    rw [← hW]
    (repeat (first | rw [World.cell?_drew] | rw [World.cell?_alloc_past _ _ _ (by first | (simp; done) | (simp; omega))])); rw [World.cell?_alloc_at _ _ _ _ (by simp)]; rfl
  have q3 : W5.cell? ⟨w4.heap.size + 1, 3, none⟩ = some (.int .i32 x.ay) := by
    rw [← hW]
    (repeat (first | rw [World.cell?_drew] | rw [World.cell?_alloc_past _ _ _ (by first | (simp; done) | (simp; omega))])); rw [World.cell?_alloc_at _ _ _ _ (by simp)]; rfl
  have q4 : W5.cell? ⟨w4.heap.size + 1, 4, none⟩ = some (.int .i32 x.m) := by
    rw [← hW]
    (repeat (first | rw [World.cell?_drew] | rw [World.cell?_alloc_past _ _ _ (by first | (simp; done) | (simp; omega))])); rw [World.cell?_alloc_at _ _ _ _ (by simp)]; rfl
  have q5 : W5.cell? ⟨w4.heap.size + 1, 5, none⟩ = some (.int .i32 x.o) := by
    rw [← hW]
    (repeat (first | rw [World.cell?_drew] | rw [World.cell?_alloc_past _ _ _ (by first | (simp; done) | (simp; omega))])); rw [World.cell?_alloc_at _ _ _ _ (by simp)]; rfl
  have q6 : W5.cell? ⟨w4.heap.size + 1, 6, none⟩ = some (.int .i32 x.px) := by
    rw [← hW]
    (repeat (first | rw [World.cell?_drew] | rw [World.cell?_alloc_past _ _ _ (by first | (simp; done) | (simp; omega))])); rw [World.cell?_alloc_at _ _ _ _ (by simp)]; rfl
  have q7 : W5.cell? ⟨w4.heap.size + 1, 7, none⟩ = some (.int .i32 x.py) := by
    rw [← hW]
    (repeat (first | rw [World.cell?_drew] | rw [World.cell?_alloc_past _ _ _ (by first | (simp; done) | (simp; omega))])); rw [World.cell?_alloc_at _ _ _ _ (by simp)]; rfl
  have q8 : W5.cell? ⟨w4.heap.size + 1, 8, none⟩ = some (.int .i32 x.vx) := by
    rw [← hW]
    (repeat (first | rw [World.cell?_drew] | rw [World.cell?_alloc_past _ _ _ (by first | (simp; done) | (simp; omega))])); rw [World.cell?_alloc_at _ _ _ _ (by simp)]; rfl
  have q9 : W5.cell? ⟨w4.heap.size + 1, 9, none⟩ = some (.int .i32 x.vy) := by
    rw [← hW]
    (repeat (first | rw [World.cell?_drew] | rw [World.cell?_alloc_past _ _ _ (by first | (simp; done) | (simp; omega))])); rw [World.cell?_alloc_at _ _ _ _ (by simp)]; rfl
  clear hW
  replace b0 := k5.all b0
  replace b1 := k5.all b1
  replace b2 := k5.all b2
  replace b3 := k5.all b3
  replace b4 := k5.all b4
  replace b5 := k5.all b5
  replace b6 := k5.all b6
  replace b7 := k5.all b7
  replace b8 := k5.all b8
  replace b9 := k5.all b9
  replace p0 := k5.all p0
  replace p1 := k5.all p1
  replace p2 := k5.all p2
  replace p3 := k5.all p3
  replace p4 := k5.all p4
  replace p5 := k5.all p5
  replace p6 := k5.all p6
  replace p7 := k5.all p7
  replace p8 := k5.all p8
  replace p9 := k5.all p9
  replace gg := kep_next gg k5
  clear k5 j0 j1
  go_wp2_with (first
    | ((with_reducible refine (CP.out _).mono ?_); rintro e w6 ⟨rfl, g6⟩
       replace b0 := Kep.all g6 (a := ⟨w.heap.size, 0, none⟩) (v := .int .u32 x.k) b0
       replace b1 := Kep.all g6 (a := ⟨w.heap.size, 1, none⟩) (v := .int .i32 x.r) b1
       replace b2 := Kep.all g6 (a := ⟨w.heap.size, 2, none⟩) (v := .int .i32 x.ax) b2
       replace b3 := Kep.all g6 (a := ⟨w.heap.size, 3, none⟩) (v := .int .i32 x.ay) b3
       replace b4 := Kep.all g6 (a := ⟨w.heap.size, 4, none⟩) (v := .int .i32 x.m) b4
       replace b5 := Kep.all g6 (a := ⟨w.heap.size, 5, none⟩) (v := .int .i32 x.o) b5
       replace b6 := Kep.all g6 (a := ⟨w.heap.size, 6, none⟩) (v := .int .i32 x.px) b6
       replace b7 := Kep.all g6 (a := ⟨w.heap.size, 7, none⟩) (v := .int .i32 x.py) b7
       replace b8 := Kep.all g6 (a := ⟨w.heap.size, 8, none⟩) (v := .int .i32 x.vx) b8
       replace b9 := Kep.all g6 (a := ⟨w.heap.size, 9, none⟩) (v := .int .i32 x.vy) b9
       replace p0 := Kep.all g6 (a := ⟨w3.heap.size, 0, none⟩) (v := .int .u32 x.k) p0
       replace p1 := Kep.all g6 (a := ⟨w3.heap.size, 1, none⟩) (v := .int .i32 x.r) p1
       replace p2 := Kep.all g6 (a := ⟨w3.heap.size, 2, none⟩) (v := .int .i32 x.ax) p2
       replace p3 := Kep.all g6 (a := ⟨w3.heap.size, 3, none⟩) (v := .int .i32 x.ay) p3
       replace p4 := Kep.all g6 (a := ⟨w3.heap.size, 4, none⟩) (v := .int .i32 x.m) p4
       replace p5 := Kep.all g6 (a := ⟨w3.heap.size, 5, none⟩) (v := .int .i32 x.o) p5
       replace p6 := Kep.all g6 (a := ⟨w3.heap.size, 6, none⟩) (v := .int .i32 x.px) p6
       replace p7 := Kep.all g6 (a := ⟨w3.heap.size, 7, none⟩) (v := .int .i32 x.py) p7
       replace p8 := Kep.all g6 (a := ⟨w3.heap.size, 8, none⟩) (v := .int .i32 a) p8
       replace p9 := Kep.all g6 (a := ⟨w3.heap.size, 9, none⟩) (v := .int .i32 b) p9
       replace z0 := Kep.all g6 (a := ⟨w4.heap.size, 0, none⟩) (v := .int .u32 x.k) z0
       replace z1 := Kep.all g6 (a := ⟨w4.heap.size, 1, none⟩) (v := .int .i32 x.r) z1
       replace z2 := Kep.all g6 (a := ⟨w4.heap.size, 2, none⟩) (v := .int .i32 x.ax) z2
       replace z3 := Kep.all g6 (a := ⟨w4.heap.size, 3, none⟩) (v := .int .i32 x.ay) z3
       replace z4 := Kep.all g6 (a := ⟨w4.heap.size, 4, none⟩) (v := .int .i32 x.m) z4
       replace z5 := Kep.all g6 (a := ⟨w4.heap.size, 5, none⟩) (v := .int .i32 x.o) z5
       replace z6 := Kep.all g6 (a := ⟨w4.heap.size, 6, none⟩) (v := .int .i32 x.px) z6
       replace z7 := Kep.all g6 (a := ⟨w4.heap.size, 7, none⟩) (v := .int .i32 x.py) z7
       replace z8 := Kep.all g6 (a := ⟨w4.heap.size, 8, none⟩) (v := .int .i32 x.vx) z8
       replace z9 := Kep.all g6 (a := ⟨w4.heap.size, 9, none⟩) (v := .int .i32 x.vy) z9
       replace q0 := Kep.all g6 (a := ⟨w4.heap.size + 1, 0, none⟩) (v := .int .u32 x.k) q0
       replace q1 := Kep.all g6 (a := ⟨w4.heap.size + 1, 1, none⟩) (v := .int .i32 x.r) q1
       replace q2 := Kep.all g6 (a := ⟨w4.heap.size + 1, 2, none⟩) (v := .int .i32 x.ax) q2
       replace q3 := Kep.all g6 (a := ⟨w4.heap.size + 1, 3, none⟩) (v := .int .i32 x.ay) q3
       replace q4 := Kep.all g6 (a := ⟨w4.heap.size + 1, 4, none⟩) (v := .int .i32 x.m) q4
       replace q5 := Kep.all g6 (a := ⟨w4.heap.size + 1, 5, none⟩) (v := .int .i32 x.o) q5
       replace q6 := Kep.all g6 (a := ⟨w4.heap.size + 1, 6, none⟩) (v := .int .i32 x.px) q6
       replace q7 := Kep.all g6 (a := ⟨w4.heap.size + 1, 7, none⟩) (v := .int .i32 x.py) q7
       replace q8 := Kep.all g6 (a := ⟨w4.heap.size + 1, 8, none⟩) (v := .int .i32 x.vx) q8
       replace q9 := Kep.all g6 (a := ⟨w4.heap.size + 1, 9, none⟩) (v := .int .i32 x.vy) q9
       replace gg := kep_next gg g6
       have zb_w6 : w.heap.size < w6.heap.size := World.block_lt_of_cell? _ _ b0
       have zp_w6 : w3.heap.size < w6.heap.size := World.block_lt_of_cell? _ _ p0
       have zz_w6 : w4.heap.size < w6.heap.size := World.block_lt_of_cell? _ _ z0
       have zq_w6 : w4.heap.size + 1 < w6.heap.size := World.block_lt_of_cell? _ _ q0))
  go_ret
  exact ⟨rfl, gg⟩
set_option maxRecDepth 100000 in
set_option maxHeartbeats 4000000 in
theorem ypl_main_s (AW : Hid YAwake) (x : Bd) (j k : Int) (z : Bool) (CX : Hid (YCk x 0)) (C1 : Hid (∀ w, Calls Try.prog 17 #[.agg #[.int .u32 x.k, .int .i32 x.r, .int .i32 x.ax, .int .i32 x.ay, .int .i32 x.m, .int .i32 x.o, .int .i32 x.px, .int .i32 x.py, .int .i32 x.vx, .int .i32 x.vy], .agg #[.int .i32 j, .int .i32 k]] w fun e w' => e = .returned (.tuple #[.agg #[.int .u32 x.k, .int .i32 x.r, .int .i32 x.ax, .int .i32 x.ay, .int .i32 x.m, .int .i32 x.o, .int .i32 x.px, .int .i32 x.py, .int .i32 x.vx, .int .i32 x.vy], .bool z]) ∧ Kep w.heap.size w w')) (C2 : Hid (∀ w, Calls Try.prog 17 #[.agg #[.int .u32 x.k, .int .i32 x.r, .int .i32 x.ax, .int .i32 x.ay, .int .i32 x.m, .int .i32 x.o, .int .i32 x.px, .int .i32 x.py, .int .i32 x.vx, .int .i32 x.vy], .agg #[.int .i32 0, .int .i32 0]] w fun e w' => e = .returned (.tuple #[.agg #[.int .u32 x.k, .int .i32 x.r, .int .i32 x.ax, .int .i32 x.ay, .int .i32 x.m, .int .i32 x.o, .int .i32 x.px, .int .i32 x.py, .int .i32 x.vx, .int .i32 x.vy], .bool false]) ∧ Kep w.heap.size w w')) (CP : Hid (∀ w, Calls Try.prog 19 #[.agg #[.int .u32 x.k, .int .i32 x.r, .int .i32 x.ax, .int .i32 x.ay, .int .i32 x.m, .int .i32 x.o, .int .i32 x.px, .int .i32 x.py, .int .i32 x.vx, .int .i32 x.vy]] w fun e w' => e = .returned (.int .i64 0) ∧ Kep w.heap.size w w')) (h0 : decide (0 < x.m) = false) (w : World) : Calls Try.prog 6 #[.agg #[.int .u32 x.k, .int .i32 x.r, .int .i32 x.ax, .int .i32 x.ay, .int .i32 x.m, .int .i32 x.o, .int .i32 x.px, .int .i32 x.py, .int .i32 x.vx, .int .i32 x.vy], .agg #[.int .i32 j, .int .i32 k]] w fun e w' => e = .returned (.bool true) ∧ Kep w.heap.size w w' := by
  have e1 := body_eqI x
  go_enter Try.func6, Try.ntmps6
  go_upto_region 7 with (first
    | ((with_reducible refine (AW.out _).mono ?_); rintro e w1 ⟨rfl, g1⟩
       have b0 := Kep.all g1 (a := ⟨w.heap.size, 0, none⟩) (v := .int .u32 x.k) (by (repeat (first | rw [World.cell?_drew] | rw [World.cell?_alloc_past _ _ _ (by first | (simp; done) | (simp; omega))])); rw [World.cell?_alloc_at _ _ _ _ (by simp)]; rfl)
       have b1 := Kep.all g1 (a := ⟨w.heap.size, 1, none⟩) (v := .int .i32 x.r) (by (repeat (first | rw [World.cell?_drew] | rw [World.cell?_alloc_past _ _ _ (by first | (simp; done) | (simp; omega))])); rw [World.cell?_alloc_at _ _ _ _ (by simp)]; rfl)
       have b2 := Kep.all g1 (a := ⟨w.heap.size, 2, none⟩) (v := .int .i32 x.ax) (by (repeat (first | rw [World.cell?_drew] | rw [World.cell?_alloc_past _ _ _ (by first | (simp; done) | (simp; omega))])); rw [World.cell?_alloc_at _ _ _ _ (by simp)]; rfl)
       have b3 := Kep.all g1 (a := ⟨w.heap.size, 3, none⟩) (v := .int .i32 x.ay) (by (repeat (first | rw [World.cell?_drew] | rw [World.cell?_alloc_past _ _ _ (by first | (simp; done) | (simp; omega))])); rw [World.cell?_alloc_at _ _ _ _ (by simp)]; rfl)
       have b4 := Kep.all g1 (a := ⟨w.heap.size, 4, none⟩) (v := .int .i32 x.m) (by (repeat (first | rw [World.cell?_drew] | rw [World.cell?_alloc_past _ _ _ (by first | (simp; done) | (simp; omega))])); rw [World.cell?_alloc_at _ _ _ _ (by simp)]; rfl)
       have b5 := Kep.all g1 (a := ⟨w.heap.size, 5, none⟩) (v := .int .i32 x.o) (by (repeat (first | rw [World.cell?_drew] | rw [World.cell?_alloc_past _ _ _ (by first | (simp; done) | (simp; omega))])); rw [World.cell?_alloc_at _ _ _ _ (by simp)]; rfl)
       have b6 := Kep.all g1 (a := ⟨w.heap.size, 6, none⟩) (v := .int .i32 x.px) (by (repeat (first | rw [World.cell?_drew] | rw [World.cell?_alloc_past _ _ _ (by first | (simp; done) | (simp; omega))])); rw [World.cell?_alloc_at _ _ _ _ (by simp)]; rfl)
       have b7 := Kep.all g1 (a := ⟨w.heap.size, 7, none⟩) (v := .int .i32 x.py) (by (repeat (first | rw [World.cell?_drew] | rw [World.cell?_alloc_past _ _ _ (by first | (simp; done) | (simp; omega))])); rw [World.cell?_alloc_at _ _ _ _ (by simp)]; rfl)
       have b8 := Kep.all g1 (a := ⟨w.heap.size, 8, none⟩) (v := .int .i32 x.vx) (by (repeat (first | rw [World.cell?_drew] | rw [World.cell?_alloc_past _ _ _ (by first | (simp; done) | (simp; omega))])); rw [World.cell?_alloc_at _ _ _ _ (by simp)]; rfl)
       have b9 := Kep.all g1 (a := ⟨w.heap.size, 9, none⟩) (v := .int .i32 x.vy) (by (repeat (first | rw [World.cell?_drew] | rw [World.cell?_alloc_past _ _ _ (by first | (simp; done) | (simp; omega))])); rw [World.cell?_alloc_at _ _ _ _ (by simp)]; rfl)
       have j0 := Kep.all g1 (a := ⟨w.heap.size + 1, 0, none⟩) (v := .int .i32 j) (by (repeat (first | rw [World.cell?_drew] | rw [World.cell?_alloc_past _ _ _ (by first | (simp; done) | (simp; omega))])); rw [World.cell?_alloc_at _ _ _ _ (by simp)]; rfl)
       have j1 := Kep.all g1 (a := ⟨w.heap.size + 1, 1, none⟩) (v := .int .i32 k) (by (repeat (first | rw [World.cell?_drew] | rw [World.cell?_alloc_past _ _ _ (by first | (simp; done) | (simp; omega))])); rw [World.cell?_alloc_at _ _ _ _ (by simp)]; rfl)
       have gg := kep_next (kep_more (kep_more (Kep.refl _ _) _) _) g1
       have zb_w1 : w.heap.size < w1.heap.size := World.block_lt_of_cell? _ _ b0
       have zj_w1 : w.heap.size + 1 < w1.heap.size := World.block_lt_of_cell? _ _ j0)
    | ((with_reducible refine (CX.out _).mono ?_); rintro e w2 ⟨rfl, g2⟩
       replace b0 := Kep.all g2 (a := ⟨w.heap.size, 0, none⟩) (v := .int .u32 x.k) b0
       replace b1 := Kep.all g2 (a := ⟨w.heap.size, 1, none⟩) (v := .int .i32 x.r) b1
       replace b2 := Kep.all g2 (a := ⟨w.heap.size, 2, none⟩) (v := .int .i32 x.ax) b2
       replace b3 := Kep.all g2 (a := ⟨w.heap.size, 3, none⟩) (v := .int .i32 x.ay) b3
       replace b4 := Kep.all g2 (a := ⟨w.heap.size, 4, none⟩) (v := .int .i32 x.m) b4
       replace b5 := Kep.all g2 (a := ⟨w.heap.size, 5, none⟩) (v := .int .i32 x.o) b5
       replace b6 := Kep.all g2 (a := ⟨w.heap.size, 6, none⟩) (v := .int .i32 x.px) b6
       replace b7 := Kep.all g2 (a := ⟨w.heap.size, 7, none⟩) (v := .int .i32 x.py) b7
       replace b8 := Kep.all g2 (a := ⟨w.heap.size, 8, none⟩) (v := .int .i32 x.vx) b8
       replace b9 := Kep.all g2 (a := ⟨w.heap.size, 9, none⟩) (v := .int .i32 x.vy) b9
       replace j0 := Kep.all g2 (a := ⟨w.heap.size + 1, 0, none⟩) (v := .int .i32 j) j0
       replace j1 := Kep.all g2 (a := ⟨w.heap.size + 1, 1, none⟩) (v := .int .i32 k) j1
       replace gg := kep_next gg g2
       have zb_w2 : w.heap.size < w2.heap.size := World.block_lt_of_cell? _ _ b0
       have zj_w2 : w.heap.size + 1 < w2.heap.size := World.block_lt_of_cell? _ _ j0)
    | ((with_reducible refine (C1.out _).mono ?_); rintro e w3 ⟨rfl, g3⟩
       replace b0 := Kep.all g3 (a := ⟨w.heap.size, 0, none⟩) (v := .int .u32 x.k) b0
       replace b1 := Kep.all g3 (a := ⟨w.heap.size, 1, none⟩) (v := .int .i32 x.r) b1
       replace b2 := Kep.all g3 (a := ⟨w.heap.size, 2, none⟩) (v := .int .i32 x.ax) b2
       replace b3 := Kep.all g3 (a := ⟨w.heap.size, 3, none⟩) (v := .int .i32 x.ay) b3
       replace b4 := Kep.all g3 (a := ⟨w.heap.size, 4, none⟩) (v := .int .i32 x.m) b4
       replace b5 := Kep.all g3 (a := ⟨w.heap.size, 5, none⟩) (v := .int .i32 x.o) b5
       replace b6 := Kep.all g3 (a := ⟨w.heap.size, 6, none⟩) (v := .int .i32 x.px) b6
       replace b7 := Kep.all g3 (a := ⟨w.heap.size, 7, none⟩) (v := .int .i32 x.py) b7
       replace b8 := Kep.all g3 (a := ⟨w.heap.size, 8, none⟩) (v := .int .i32 x.vx) b8
       replace b9 := Kep.all g3 (a := ⟨w.heap.size, 9, none⟩) (v := .int .i32 x.vy) b9
       replace j0 := Kep.all g3 (a := ⟨w.heap.size + 1, 0, none⟩) (v := .int .i32 j) j0
       replace j1 := Kep.all g3 (a := ⟨w.heap.size + 1, 1, none⟩) (v := .int .i32 k) j1
       replace gg := kep_next gg g3
       have zb_w3 : w.heap.size < w3.heap.size := World.block_lt_of_cell? _ _ b0
       have zj_w3 : w.heap.size + 1 < w3.heap.size := World.block_lt_of_cell? _ _ j0)
    | ((with_reducible refine (C2.out _).mono ?_); rintro e w4 ⟨rfl, g4⟩
       replace b0 := Kep.all g4 (a := ⟨w.heap.size, 0, none⟩) (v := .int .u32 x.k) (Kep.all (kep_more (Kep.refl _ _) _) b0)
       replace b1 := Kep.all g4 (a := ⟨w.heap.size, 1, none⟩) (v := .int .i32 x.r) (Kep.all (kep_more (Kep.refl _ _) _) b1)
       replace b2 := Kep.all g4 (a := ⟨w.heap.size, 2, none⟩) (v := .int .i32 x.ax) (Kep.all (kep_more (Kep.refl _ _) _) b2)
       replace b3 := Kep.all g4 (a := ⟨w.heap.size, 3, none⟩) (v := .int .i32 x.ay) (Kep.all (kep_more (Kep.refl _ _) _) b3)
       replace b4 := Kep.all g4 (a := ⟨w.heap.size, 4, none⟩) (v := .int .i32 x.m) (Kep.all (kep_more (Kep.refl _ _) _) b4)
       replace b5 := Kep.all g4 (a := ⟨w.heap.size, 5, none⟩) (v := .int .i32 x.o) (Kep.all (kep_more (Kep.refl _ _) _) b5)
       replace b6 := Kep.all g4 (a := ⟨w.heap.size, 6, none⟩) (v := .int .i32 x.px) (Kep.all (kep_more (Kep.refl _ _) _) b6)
       replace b7 := Kep.all g4 (a := ⟨w.heap.size, 7, none⟩) (v := .int .i32 x.py) (Kep.all (kep_more (Kep.refl _ _) _) b7)
       replace b8 := Kep.all g4 (a := ⟨w.heap.size, 8, none⟩) (v := .int .i32 x.vx) (Kep.all (kep_more (Kep.refl _ _) _) b8)
       replace b9 := Kep.all g4 (a := ⟨w.heap.size, 9, none⟩) (v := .int .i32 x.vy) (Kep.all (kep_more (Kep.refl _ _) _) b9)
       replace j0 := Kep.all g4 (a := ⟨w.heap.size + 1, 0, none⟩) (v := .int .i32 j) (Kep.all (kep_more (Kep.refl _ _) _) j0)
       replace j1 := Kep.all g4 (a := ⟨w.heap.size + 1, 1, none⟩) (v := .int .i32 k) (Kep.all (kep_more (Kep.refl _ _) _) j1)
       have p0 := Kep.all g4 (a := ⟨w3.heap.size, 0, none⟩) (v := .int .u32 x.k) (by (repeat (first | rw [World.cell?_drew] | rw [World.cell?_alloc_past _ _ _ (by first | (simp; done) | (simp; omega))])); rw [World.cell?_alloc_at _ _ _ _ (by simp)]; rfl)
       have p1 := Kep.all g4 (a := ⟨w3.heap.size, 1, none⟩) (v := .int .i32 x.r) (by (repeat (first | rw [World.cell?_drew] | rw [World.cell?_alloc_past _ _ _ (by first | (simp; done) | (simp; omega))])); rw [World.cell?_alloc_at _ _ _ _ (by simp)]; rfl)
       have p2 := Kep.all g4 (a := ⟨w3.heap.size, 2, none⟩) (v := .int .i32 x.ax) (by (repeat (first | rw [World.cell?_drew] | rw [World.cell?_alloc_past _ _ _ (by first | (simp; done) | (simp; omega))])); rw [World.cell?_alloc_at _ _ _ _ (by simp)]; rfl)
       have p3 := Kep.all g4 (a := ⟨w3.heap.size, 3, none⟩) (v := .int .i32 x.ay) (by (repeat (first | rw [World.cell?_drew] | rw [World.cell?_alloc_past _ _ _ (by first | (simp; done) | (simp; omega))])); rw [World.cell?_alloc_at _ _ _ _ (by simp)]; rfl)
       have p4 := Kep.all g4 (a := ⟨w3.heap.size, 4, none⟩) (v := .int .i32 x.m) (by (repeat (first | rw [World.cell?_drew] | rw [World.cell?_alloc_past _ _ _ (by first | (simp; done) | (simp; omega))])); rw [World.cell?_alloc_at _ _ _ _ (by simp)]; rfl)
       have p5 := Kep.all g4 (a := ⟨w3.heap.size, 5, none⟩) (v := .int .i32 x.o) (by (repeat (first | rw [World.cell?_drew] | rw [World.cell?_alloc_past _ _ _ (by first | (simp; done) | (simp; omega))])); rw [World.cell?_alloc_at _ _ _ _ (by simp)]; rfl)
       have p6 := Kep.all g4 (a := ⟨w3.heap.size, 6, none⟩) (v := .int .i32 x.px) (by (repeat (first | rw [World.cell?_drew] | rw [World.cell?_alloc_past _ _ _ (by first | (simp; done) | (simp; omega))])); rw [World.cell?_alloc_at _ _ _ _ (by simp)]; rfl)
       have p7 := Kep.all g4 (a := ⟨w3.heap.size, 7, none⟩) (v := .int .i32 x.py) (by (repeat (first | rw [World.cell?_drew] | rw [World.cell?_alloc_past _ _ _ (by first | (simp; done) | (simp; omega))])); rw [World.cell?_alloc_at _ _ _ _ (by simp)]; rfl)
       have p8 := Kep.all g4 (a := ⟨w3.heap.size, 8, none⟩) (v := .int .i32 x.vx) (by (repeat (first | rw [World.cell?_drew] | rw [World.cell?_alloc_past _ _ _ (by first | (simp; done) | (simp; omega))])); rw [World.cell?_alloc_at _ _ _ _ (by simp)]; rfl)
       have p9 := Kep.all g4 (a := ⟨w3.heap.size, 9, none⟩) (v := .int .i32 x.vy) (by (repeat (first | rw [World.cell?_drew] | rw [World.cell?_alloc_past _ _ _ (by first | (simp; done) | (simp; omega))])); rw [World.cell?_alloc_at _ _ _ _ (by simp)]; rfl)
       replace gg := kep_next (kep_more gg _) g4
       have zb_w4 : w.heap.size < w4.heap.size := World.block_lt_of_cell? _ _ b0
       have zj_w4 : w.heap.size + 1 < w4.heap.size := World.block_lt_of_cell? _ _ j0
       have zp_w4 : w3.heap.size < w4.heap.size := World.block_lt_of_cell? _ _ p0))
  generalize hW : World.alloc (World.alloc w4 _) _ = W5
  have k5 : Kep w4.heap.size w4 W5 := by rw [← hW]; exact kep_more (kep_more (Kep.refl _ _) _) _
  have z0 : W5.cell? ⟨w4.heap.size, 0, none⟩ = some (.int .u32 x.k) := by
    rw [← hW]
    (repeat (first | rw [World.cell?_drew] | rw [World.cell?_alloc_past _ _ _ (by first | (simp; done) | (simp; omega))])); rw [World.cell?_alloc_at _ _ _ _ (by simp)]; rfl
  have z1 : W5.cell? ⟨w4.heap.size, 1, none⟩ = some (.int .i32 x.r) := by
    rw [← hW]
    (repeat (first | rw [World.cell?_drew] | rw [World.cell?_alloc_past _ _ _ (by first | (simp; done) | (simp; omega))])); rw [World.cell?_alloc_at _ _ _ _ (by simp)]; rfl
  have z2 : W5.cell? ⟨w4.heap.size, 2, none⟩ = some (.int .i32 x.ax) := by
    rw [← hW]
    (repeat (first | rw [World.cell?_drew] | rw [World.cell?_alloc_past _ _ _ (by first | (simp; done) | (simp; omega))])); rw [World.cell?_alloc_at _ _ _ _ (by simp)]; rfl
  have z3 : W5.cell? ⟨w4.heap.size, 3, none⟩ = some (.int .i32 x.ay) := by
    rw [← hW]
    (repeat (first | rw [World.cell?_drew] | rw [World.cell?_alloc_past _ _ _ (by first | (simp; done) | (simp; omega))])); rw [World.cell?_alloc_at _ _ _ _ (by simp)]; rfl
  have z4 : W5.cell? ⟨w4.heap.size, 4, none⟩ = some (.int .i32 x.m) := by
    rw [← hW]
    (repeat (first | rw [World.cell?_drew] | rw [World.cell?_alloc_past _ _ _ (by first | (simp; done) | (simp; omega))])); rw [World.cell?_alloc_at _ _ _ _ (by simp)]; rfl
  have z5 : W5.cell? ⟨w4.heap.size, 5, none⟩ = some (.int .i32 x.o) := by
    rw [← hW]
    (repeat (first | rw [World.cell?_drew] | rw [World.cell?_alloc_past _ _ _ (by first | (simp; done) | (simp; omega))])); rw [World.cell?_alloc_at _ _ _ _ (by simp)]; rfl
  have z6 : W5.cell? ⟨w4.heap.size, 6, none⟩ = some (.int .i32 x.px) := by
    rw [← hW]
    (repeat (first | rw [World.cell?_drew] | rw [World.cell?_alloc_past _ _ _ (by first | (simp; done) | (simp; omega))])); rw [World.cell?_alloc_at _ _ _ _ (by simp)]; rfl
  have z7 : W5.cell? ⟨w4.heap.size, 7, none⟩ = some (.int .i32 x.py) := by
    rw [← hW]
    (repeat (first | rw [World.cell?_drew] | rw [World.cell?_alloc_past _ _ _ (by first | (simp; done) | (simp; omega))])); rw [World.cell?_alloc_at _ _ _ _ (by simp)]; rfl
  have z8 : W5.cell? ⟨w4.heap.size, 8, none⟩ = some (.int .i32 x.vx) := by
    rw [← hW]
    (repeat (first | rw [World.cell?_drew] | rw [World.cell?_alloc_past _ _ _ (by first | (simp; done) | (simp; omega))])); rw [World.cell?_alloc_at _ _ _ _ (by simp)]; rfl
  have z9 : W5.cell? ⟨w4.heap.size, 9, none⟩ = some (.int .i32 x.vy) := by
    rw [← hW]
    (repeat (first | rw [World.cell?_drew] | rw [World.cell?_alloc_past _ _ _ (by first | (simp; done) | (simp; omega))])); rw [World.cell?_alloc_at _ _ _ _ (by simp)]; rfl
  have q0 : W5.cell? ⟨w4.heap.size + 1, 0, none⟩ = some (.int .u32 x.k) := by
    rw [← hW]
    (repeat (first | rw [World.cell?_drew] | rw [World.cell?_alloc_past _ _ _ (by first | (simp; done) | (simp; omega))])); rw [World.cell?_alloc_at _ _ _ _ (by simp)]; rfl
  have q1 : W5.cell? ⟨w4.heap.size + 1, 1, none⟩ = some (.int .i32 x.r) := by
    rw [← hW]
    (repeat (first | rw [World.cell?_drew] | rw [World.cell?_alloc_past _ _ _ (by first | (simp; done) | (simp; omega))])); rw [World.cell?_alloc_at _ _ _ _ (by simp)]; rfl
  have q2 : W5.cell? ⟨w4.heap.size + 1, 2, none⟩ = some (.int .i32 x.ax) := by
    rw [← hW]
    (repeat (first | rw [World.cell?_drew] | rw [World.cell?_alloc_past _ _ _ (by first | (simp; done) | (simp; omega))])); rw [World.cell?_alloc_at _ _ _ _ (by simp)]; rfl
  have q3 : W5.cell? ⟨w4.heap.size + 1, 3, none⟩ = some (.int .i32 x.ay) := by
    rw [← hW]
    (repeat (first | rw [World.cell?_drew] | rw [World.cell?_alloc_past _ _ _ (by first | (simp; done) | (simp; omega))])); rw [World.cell?_alloc_at _ _ _ _ (by simp)]; rfl
  have q4 : W5.cell? ⟨w4.heap.size + 1, 4, none⟩ = some (.int .i32 x.m) := by
    rw [← hW]
    (repeat (first | rw [World.cell?_drew] | rw [World.cell?_alloc_past _ _ _ (by first | (simp; done) | (simp; omega))])); rw [World.cell?_alloc_at _ _ _ _ (by simp)]; rfl
  have q5 : W5.cell? ⟨w4.heap.size + 1, 5, none⟩ = some (.int .i32 x.o) := by
    rw [← hW]
    (repeat (first | rw [World.cell?_drew] | rw [World.cell?_alloc_past _ _ _ (by first | (simp; done) | (simp; omega))])); rw [World.cell?_alloc_at _ _ _ _ (by simp)]; rfl
  have q6 : W5.cell? ⟨w4.heap.size + 1, 6, none⟩ = some (.int .i32 x.px) := by
    rw [← hW]
    (repeat (first | rw [World.cell?_drew] | rw [World.cell?_alloc_past _ _ _ (by first | (simp; done) | (simp; omega))])); rw [World.cell?_alloc_at _ _ _ _ (by simp)]; rfl
  have q7 : W5.cell? ⟨w4.heap.size + 1, 7, none⟩ = some (.int .i32 x.py) := by
    rw [← hW]
    (repeat (first | rw [World.cell?_drew] | rw [World.cell?_alloc_past _ _ _ (by first | (simp; done) | (simp; omega))])); rw [World.cell?_alloc_at _ _ _ _ (by simp)]; rfl
  have q8 : W5.cell? ⟨w4.heap.size + 1, 8, none⟩ = some (.int .i32 x.vx) := by
    rw [← hW]
    (repeat (first | rw [World.cell?_drew] | rw [World.cell?_alloc_past _ _ _ (by first | (simp; done) | (simp; omega))])); rw [World.cell?_alloc_at _ _ _ _ (by simp)]; rfl
  have q9 : W5.cell? ⟨w4.heap.size + 1, 9, none⟩ = some (.int .i32 x.vy) := by
    rw [← hW]
    (repeat (first | rw [World.cell?_drew] | rw [World.cell?_alloc_past _ _ _ (by first | (simp; done) | (simp; omega))])); rw [World.cell?_alloc_at _ _ _ _ (by simp)]; rfl
  clear hW
  replace b0 := k5.all b0
  replace b1 := k5.all b1
  replace b2 := k5.all b2
  replace b3 := k5.all b3
  replace b4 := k5.all b4
  replace b5 := k5.all b5
  replace b6 := k5.all b6
  replace b7 := k5.all b7
  replace b8 := k5.all b8
  replace b9 := k5.all b9
  replace p0 := k5.all p0
  replace p1 := k5.all p1
  replace p2 := k5.all p2
  replace p3 := k5.all p3
  replace p4 := k5.all p4
  replace p5 := k5.all p5
  replace p6 := k5.all p6
  replace p7 := k5.all p7
  replace p8 := k5.all p8
  replace p9 := k5.all p9
  replace gg := kep_next gg k5
  clear k5 j0 j1
  go_wp2_with (first
    | ((with_reducible refine (CP.out _).mono ?_); rintro e w6 ⟨rfl, g6⟩
       replace b0 := Kep.all g6 (a := ⟨w.heap.size, 0, none⟩) (v := .int .u32 x.k) b0
       replace b1 := Kep.all g6 (a := ⟨w.heap.size, 1, none⟩) (v := .int .i32 x.r) b1
       replace b2 := Kep.all g6 (a := ⟨w.heap.size, 2, none⟩) (v := .int .i32 x.ax) b2
       replace b3 := Kep.all g6 (a := ⟨w.heap.size, 3, none⟩) (v := .int .i32 x.ay) b3
       replace b4 := Kep.all g6 (a := ⟨w.heap.size, 4, none⟩) (v := .int .i32 x.m) b4
       replace b5 := Kep.all g6 (a := ⟨w.heap.size, 5, none⟩) (v := .int .i32 x.o) b5
       replace b6 := Kep.all g6 (a := ⟨w.heap.size, 6, none⟩) (v := .int .i32 x.px) b6
       replace b7 := Kep.all g6 (a := ⟨w.heap.size, 7, none⟩) (v := .int .i32 x.py) b7
       replace b8 := Kep.all g6 (a := ⟨w.heap.size, 8, none⟩) (v := .int .i32 x.vx) b8
       replace b9 := Kep.all g6 (a := ⟨w.heap.size, 9, none⟩) (v := .int .i32 x.vy) b9
       replace p0 := Kep.all g6 (a := ⟨w3.heap.size, 0, none⟩) (v := .int .u32 x.k) p0
       replace p1 := Kep.all g6 (a := ⟨w3.heap.size, 1, none⟩) (v := .int .i32 x.r) p1
       replace p2 := Kep.all g6 (a := ⟨w3.heap.size, 2, none⟩) (v := .int .i32 x.ax) p2
       replace p3 := Kep.all g6 (a := ⟨w3.heap.size, 3, none⟩) (v := .int .i32 x.ay) p3
       replace p4 := Kep.all g6 (a := ⟨w3.heap.size, 4, none⟩) (v := .int .i32 x.m) p4
       replace p5 := Kep.all g6 (a := ⟨w3.heap.size, 5, none⟩) (v := .int .i32 x.o) p5
       replace p6 := Kep.all g6 (a := ⟨w3.heap.size, 6, none⟩) (v := .int .i32 x.px) p6
       replace p7 := Kep.all g6 (a := ⟨w3.heap.size, 7, none⟩) (v := .int .i32 x.py) p7
       replace p8 := Kep.all g6 (a := ⟨w3.heap.size, 8, none⟩) (v := .int .i32 x.vx) p8
       replace p9 := Kep.all g6 (a := ⟨w3.heap.size, 9, none⟩) (v := .int .i32 x.vy) p9
       replace z0 := Kep.all g6 (a := ⟨w4.heap.size, 0, none⟩) (v := .int .u32 x.k) z0
       replace z1 := Kep.all g6 (a := ⟨w4.heap.size, 1, none⟩) (v := .int .i32 x.r) z1
       replace z2 := Kep.all g6 (a := ⟨w4.heap.size, 2, none⟩) (v := .int .i32 x.ax) z2
       replace z3 := Kep.all g6 (a := ⟨w4.heap.size, 3, none⟩) (v := .int .i32 x.ay) z3
       replace z4 := Kep.all g6 (a := ⟨w4.heap.size, 4, none⟩) (v := .int .i32 x.m) z4
       replace z5 := Kep.all g6 (a := ⟨w4.heap.size, 5, none⟩) (v := .int .i32 x.o) z5
       replace z6 := Kep.all g6 (a := ⟨w4.heap.size, 6, none⟩) (v := .int .i32 x.px) z6
       replace z7 := Kep.all g6 (a := ⟨w4.heap.size, 7, none⟩) (v := .int .i32 x.py) z7
       replace z8 := Kep.all g6 (a := ⟨w4.heap.size, 8, none⟩) (v := .int .i32 x.vx) z8
       replace z9 := Kep.all g6 (a := ⟨w4.heap.size, 9, none⟩) (v := .int .i32 x.vy) z9
       replace q0 := Kep.all g6 (a := ⟨w4.heap.size + 1, 0, none⟩) (v := .int .u32 x.k) q0
       replace q1 := Kep.all g6 (a := ⟨w4.heap.size + 1, 1, none⟩) (v := .int .i32 x.r) q1
       replace q2 := Kep.all g6 (a := ⟨w4.heap.size + 1, 2, none⟩) (v := .int .i32 x.ax) q2
       replace q3 := Kep.all g6 (a := ⟨w4.heap.size + 1, 3, none⟩) (v := .int .i32 x.ay) q3
       replace q4 := Kep.all g6 (a := ⟨w4.heap.size + 1, 4, none⟩) (v := .int .i32 x.m) q4
       replace q5 := Kep.all g6 (a := ⟨w4.heap.size + 1, 5, none⟩) (v := .int .i32 x.o) q5
       replace q6 := Kep.all g6 (a := ⟨w4.heap.size + 1, 6, none⟩) (v := .int .i32 x.px) q6
       replace q7 := Kep.all g6 (a := ⟨w4.heap.size + 1, 7, none⟩) (v := .int .i32 x.py) q7
       replace q8 := Kep.all g6 (a := ⟨w4.heap.size + 1, 8, none⟩) (v := .int .i32 x.vx) q8
       replace q9 := Kep.all g6 (a := ⟨w4.heap.size + 1, 9, none⟩) (v := .int .i32 x.vy) q9
       replace gg := kep_next gg g6
       have zb_w6 : w.heap.size < w6.heap.size := World.block_lt_of_cell? _ _ b0
       have zp_w6 : w3.heap.size < w6.heap.size := World.block_lt_of_cell? _ _ p0
       have zz_w6 : w4.heap.size < w6.heap.size := World.block_lt_of_cell? _ _ z0
       have zq_w6 : w4.heap.size + 1 < w6.heap.size := World.block_lt_of_cell? _ _ q0))
  go_ret
  exact ⟨rfl, gg⟩
/-- The law IntegratePushes. -/
theorem ypl_law (O : YOps) (AW : YAwake) (x : Bd) (j k : Int) (hj : -2147483648 ≤ j ∧ j < 2147483648) (hk : -2147483648 ≤ k ∧ k < 2147483648) (w : World) : Calls Try.prog 6 #[.agg #[.int .u32 x.k, .int .i32 x.r, .int .i32 x.ax, .int .i32 x.ay, .int .i32 x.m, .int .i32 x.o, .int .i32 x.px, .int .i32 x.py, .int .i32 x.vx, .int .i32 x.vy], .agg #[.int .i32 j, .int .i32 k]] w fun e w' => e = .returned (.bool true) ∧ Kep w.heap.size w w' := by
  by_cases cx : okI x
  · have kx := yck x
    rw [show chk x.r x.ax x.ay x.m x.o x.px x.py x.vx x.vy = 0 from cx] at kx
    have hv := vb_of cx
    have p1 := O.psh cx hj hk
    have p2 := O.psh (j := 0) (k := 0) cx ⟨by decide, by decide⟩ ⟨by decide, by decide⟩
    have x0 := hv.vx0; have x1 := hv.vx1; have x2 := hv.vy0; have x3 := hv.vy1
    have z1 : psX x 0 = x.vx := by unfold psX; omega
    have z2 : psY x 0 = x.vy := by unfold psY; omega
    have z3 : psC x 0 0 = false := by unfold psC; rw [z1, z2, limJ_id ⟨x0, x1⟩, limJ_id ⟨x2, x3⟩]; simp
    have kp := yck (psB x j k)
    rw [show chk (psB x j k).r (psB x j k).ax (psB x j k).ay (psB x j k).m (psB x j k).o (psB x j k).px (psB x j k).py (psB x j k).vx (psB x j k).vy = 0 from ok_ps j k cx] at kp
    unfold YPs psV at p1 p2
    rw [z3, z1, z2, limJ_id ⟨x0, x1⟩, limJ_id ⟨x2, x3⟩] at p2
    by_cases hm : 0 < x.m
    · exact ypl_main_t (Lib.hid AW) x j k _ _ _ (Lib.hid kx) (Lib.hid p1) (Lib.hid p2) (Lib.hid kp) (decide_eq_true hm) w
    · have m0 : x.m = 0 := by have := hv.m0; omega
      have y1 : psX x j = x.vx := by unfold psX; rw [m0, Int.mul_zero]; omega
      have y2 : psY x k = x.vy := by unfold psY; rw [m0, Int.mul_zero]; omega
      have kp2 : (∀ w, Calls Try.prog 19 #[.agg #[.int .u32 x.k, .int .i32 x.r, .int .i32 x.ax, .int .i32 x.ay, .int .i32 x.m, .int .i32 x.o, .int .i32 x.px, .int .i32 x.py, .int .i32 x.vx, .int .i32 x.vy]] w fun e w' => e = .returned (.int .i64 0) ∧ Kep w.heap.size w w') := by
        have := kp
        unfold psB at this
        rw [y1, y2, limJ_id ⟨x0, x1⟩, limJ_id ⟨x2, x3⟩] at this
        exact this
      rw [y1, y2, limJ_id ⟨x0, x1⟩, limJ_id ⟨x2, x3⟩] at p1
      exact ypl_main_s (Lib.hid AW) x j k _ (Lib.hid kx) (Lib.hid p1) (Lib.hid p2) (Lib.hid kp2) (decide_eq_false hm) w
  · exact ypl_bad (Lib.hid AW) x j k _ (Lib.hid (yck x)) (bne_iff_ne.2 cx) w
end Go.Proofs.Ytlabeelbbkbkaaa
