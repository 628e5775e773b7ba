/-
  Package cell: the law CellBodies.
-/
import Derived.Test.YtnbncdgadahhbaaDoorCellCon
import Derived.Deep.DeepCutAuto
namespace Go.Proofs.YtnbncdgadahhbaaDoor
open Go.RowKit Go.Lib

set_option maxRecDepth 100000 in
set_option maxHeartbeats 2000000 in
theorem cdl_bad1 (k r ax ay m o px py vx vy k2 r2 ax2 ay2 m2 o2 px2 py2 vx2 vy2 : Int) (e1 : Int) (h1 : (e1 != 0) = true) (AW : Hid CAwake) (K1 : Hid (KCk k r ax ay m o px py vx vy e1)) (w : World) (F0 : Fac w) : Calls Tryd.prog 6 #[.agg #[.int .u32 k, .int .i32 r, .int .i32 ax, .int .i32 ay, .int .i32 m, .int .i32 o, .int .i32 px, .int .i32 py, .int .i32 vx, .int .i32 vy], .agg #[.int .u32 k2, .int .i32 r2, .int .i32 ax2, .int .i32 ay2, .int .i32 m2, .int .i32 o2, .int .i32 px2, .int .i32 py2, .int .i32 vx2, .int .i32 vy2]] w fun e w' => e = .returned (.bool true) ∧ Kep w.heap.size w w' := by
  go_enter Tryd.func6, Tryd.ntmps6
  go_wp2_with (first
    | ((with_reducible refine (AW.out _ (F0.kep (by (repeat (first | with_reducible assumption | refine kep_more ?_ _ | refine kep_drew ?_ | exact Kep.refl _ _))))).mono ?_); rintro e w1 ⟨rfl, g1⟩
       first
         | (replace gg := kep_next gg g1)
         | (have c0 := Kep.all g1 (a := ⟨w.heap.size, 0, none⟩) (v := .int .u32 k) (by (repeat (first | rw [World.cell?_drew] | rw [World.cell?_alloc_past _ _ _ (by first | (simp; done) | (simp; omega))])); rw [World.cell?_alloc_at _ _ _ _ (by simp)]; rfl)
            have c1 := Kep.all g1 (a := ⟨w.heap.size, 1, none⟩) (v := .int .i32 r) (by (repeat (first | rw [World.cell?_drew] | rw [World.cell?_alloc_past _ _ _ (by first | (simp; done) | (simp; omega))])); rw [World.cell?_alloc_at _ _ _ _ (by simp)]; rfl)
            have c2 := Kep.all g1 (a := ⟨w.heap.size, 2, none⟩) (v := .int .i32 ax) (by (repeat (first | rw [World.cell?_drew] | rw [World.cell?_alloc_past _ _ _ (by first | (simp; done) | (simp; omega))])); rw [World.cell?_alloc_at _ _ _ _ (by simp)]; rfl)
            have c3 := Kep.all g1 (a := ⟨w.heap.size, 3, none⟩) (v := .int .i32 ay) (by (repeat (first | rw [World.cell?_drew] | rw [World.cell?_alloc_past _ _ _ (by first | (simp; done) | (simp; omega))])); rw [World.cell?_alloc_at _ _ _ _ (by simp)]; rfl)
            have c4 := Kep.all g1 (a := ⟨w.heap.size, 4, none⟩) (v := .int .i32 m) (by (repeat (first | rw [World.cell?_drew] | rw [World.cell?_alloc_past _ _ _ (by first | (simp; done) | (simp; omega))])); rw [World.cell?_alloc_at _ _ _ _ (by simp)]; rfl)
            have c5 := Kep.all g1 (a := ⟨w.heap.size, 5, none⟩) (v := .int .i32 o) (by (repeat (first | rw [World.cell?_drew] | rw [World.cell?_alloc_past _ _ _ (by first | (simp; done) | (simp; omega))])); rw [World.cell?_alloc_at _ _ _ _ (by simp)]; rfl)
            have c6 := Kep.all g1 (a := ⟨w.heap.size, 6, none⟩) (v := .int .i32 px) (by (repeat (first | rw [World.cell?_drew] | rw [World.cell?_alloc_past _ _ _ (by first | (simp; done) | (simp; omega))])); rw [World.cell?_alloc_at _ _ _ _ (by simp)]; rfl)
            have c7 := Kep.all g1 (a := ⟨w.heap.size, 7, none⟩) (v := .int .i32 py) (by (repeat (first | rw [World.cell?_drew] | rw [World.cell?_alloc_past _ _ _ (by first | (simp; done) | (simp; omega))])); rw [World.cell?_alloc_at _ _ _ _ (by simp)]; rfl)
            have c8 := Kep.all g1 (a := ⟨w.heap.size, 8, none⟩) (v := .int .i32 vx) (by (repeat (first | rw [World.cell?_drew] | rw [World.cell?_alloc_past _ _ _ (by first | (simp; done) | (simp; omega))])); rw [World.cell?_alloc_at _ _ _ _ (by simp)]; rfl)
            have c9 := Kep.all g1 (a := ⟨w.heap.size, 9, none⟩) (v := .int .i32 vy) (by (repeat (first | rw [World.cell?_drew] | rw [World.cell?_alloc_past _ _ _ (by first | (simp; done) | (simp; omega))])); rw [World.cell?_alloc_at _ _ _ _ (by simp)]; rfl)
            have d0 := Kep.all g1 (a := ⟨w.heap.size + 1, 0, none⟩) (v := .int .u32 k2) (by (repeat (first | rw [World.cell?_drew] | rw [World.cell?_alloc_past _ _ _ (by first | (simp; done) | (simp; omega))])); rw [World.cell?_alloc_at _ _ _ _ (by simp)]; rfl)
            have d1 := Kep.all g1 (a := ⟨w.heap.size + 1, 1, none⟩) (v := .int .i32 r2) (by (repeat (first | rw [World.cell?_drew] | rw [World.cell?_alloc_past _ _ _ (by first | (simp; done) | (simp; omega))])); rw [World.cell?_alloc_at _ _ _ _ (by simp)]; rfl)
            have d2 := Kep.all g1 (a := ⟨w.heap.size + 1, 2, none⟩) (v := .int .i32 ax2) (by (repeat (first | rw [World.cell?_drew] | rw [World.cell?_alloc_past _ _ _ (by first | (simp; done) | (simp; omega))])); rw [World.cell?_alloc_at _ _ _ _ (by simp)]; rfl)
            have d3 := Kep.all g1 (a := ⟨w.heap.size + 1, 3, none⟩) (v := .int .i32 ay2) (by (repeat (first | rw [World.cell?_drew] | rw [World.cell?_alloc_past _ _ _ (by first | (simp; done) | (simp; omega))])); rw [World.cell?_alloc_at _ _ _ _ (by simp)]; rfl)
            have d4 := Kep.all g1 (a := ⟨w.heap.size + 1, 4, none⟩) (v := .int .i32 m2) (by (repeat (first | rw [World.cell?_drew] | rw [World.cell?_alloc_past _ _ _ (by first | (simp; done) | (simp; omega))])); rw [World.cell?_alloc_at _ _ _ _ (by simp)]; rfl)
            have d5 := Kep.all g1 (a := ⟨w.heap.size + 1, 5, none⟩) (v := .int .i32 o2) (by (repeat (first | rw [World.cell?_drew] | rw [World.cell?_alloc_past _ _ _ (by first | (simp; done) | (simp; omega))])); rw [World.cell?_alloc_at _ _ _ _ (by simp)]; rfl)
            have d6 := Kep.all g1 (a := ⟨w.heap.size + 1, 6, none⟩) (v := .int .i32 px2) (by (repeat (first | rw [World.cell?_drew] | rw [World.cell?_alloc_past _ _ _ (by first | (simp; done) | (simp; omega))])); rw [World.cell?_alloc_at _ _ _ _ (by simp)]; rfl)
            have d7 := Kep.all g1 (a := ⟨w.heap.size + 1, 7, none⟩) (v := .int .i32 py2) (by (repeat (first | rw [World.cell?_drew] | rw [World.cell?_alloc_past _ _ _ (by first | (simp; done) | (simp; omega))])); rw [World.cell?_alloc_at _ _ _ _ (by simp)]; rfl)
            have d8 := Kep.all g1 (a := ⟨w.heap.size + 1, 8, none⟩) (v := .int .i32 vx2) (by (repeat (first | rw [World.cell?_drew] | rw [World.cell?_alloc_past _ _ _ (by first | (simp; done) | (simp; omega))])); rw [World.cell?_alloc_at _ _ _ _ (by simp)]; rfl)
            have d9 := Kep.all g1 (a := ⟨w.heap.size + 1, 9, none⟩) (v := .int .i32 vy2) (by (repeat (first | rw [World.cell?_drew] | rw [World.cell?_alloc_past _ _ _ (by first | (simp; done) | (simp; omega))])); rw [World.cell?_alloc_at _ _ _ _ (by simp)]; rfl)
            have gg := kep_next (kep_more (kep_more (Kep.refl _ _) _) _) g1))
    | ((with_reducible refine (K1.out _).mono ?_); rintro e w3 ⟨rfl, g3⟩
       replace c0 := Kep.all g3 (a := ⟨w.heap.size, 0, none⟩) (v := .int .u32 k) c0
       replace c1 := Kep.all g3 (a := ⟨w.heap.size, 1, none⟩) (v := .int .i32 r) c1
       replace c2 := Kep.all g3 (a := ⟨w.heap.size, 2, none⟩) (v := .int .i32 ax) c2
       replace c3 := Kep.all g3 (a := ⟨w.heap.size, 3, none⟩) (v := .int .i32 ay) c3
       replace c4 := Kep.all g3 (a := ⟨w.heap.size, 4, none⟩) (v := .int .i32 m) c4
       replace c5 := Kep.all g3 (a := ⟨w.heap.size, 5, none⟩) (v := .int .i32 o) c5
       replace c6 := Kep.all g3 (a := ⟨w.heap.size, 6, none⟩) (v := .int .i32 px) c6
       replace c7 := Kep.all g3 (a := ⟨w.heap.size, 7, none⟩) (v := .int .i32 py) c7
       replace c8 := Kep.all g3 (a := ⟨w.heap.size, 8, none⟩) (v := .int .i32 vx) c8
       replace c9 := Kep.all g3 (a := ⟨w.heap.size, 9, none⟩) (v := .int .i32 vy) c9
       replace d0 := Kep.all g3 (a := ⟨w.heap.size + 1, 0, none⟩) (v := .int .u32 k2) d0
       replace d1 := Kep.all g3 (a := ⟨w.heap.size + 1, 1, none⟩) (v := .int .i32 r2) d1
       replace d2 := Kep.all g3 (a := ⟨w.heap.size + 1, 2, none⟩) (v := .int .i32 ax2) d2
       replace d3 := Kep.all g3 (a := ⟨w.heap.size + 1, 3, none⟩) (v := .int .i32 ay2) d3
       replace d4 := Kep.all g3 (a := ⟨w.heap.size + 1, 4, none⟩) (v := .int .i32 m2) d4
       replace d5 := Kep.all g3 (a := ⟨w.heap.size + 1, 5, none⟩) (v := .int .i32 o2) d5
       replace d6 := Kep.all g3 (a := ⟨w.heap.size + 1, 6, none⟩) (v := .int .i32 px2) d6
       replace d7 := Kep.all g3 (a := ⟨w.heap.size + 1, 7, none⟩) (v := .int .i32 py2) d7
       replace d8 := Kep.all g3 (a := ⟨w.heap.size + 1, 8, none⟩) (v := .int .i32 vx2) d8
       replace d9 := Kep.all g3 (a := ⟨w.heap.size + 1, 9, none⟩) (v := .int .i32 vy2) d9
       replace gg := kep_next gg g3
       have zc_w3 : w.heap.size < w3.heap.size := World.block_lt_of_cell? _ _ c0
       have zd_w3 : w.heap.size + 1 < w3.heap.size := World.block_lt_of_cell? _ _ d0))
  go_ret
  exact ⟨rfl, gg⟩
set_option maxRecDepth 100000 in
set_option maxHeartbeats 2000000 in
theorem cdl_bad2 (k r ax ay m o px py vx vy k2 r2 ax2 ay2 m2 o2 px2 py2 vx2 vy2 : Int) (e1 : Int) (h1 : (e1 != 0) = true) (AW : Hid CAwake) (K0 : Hid (KCk k r ax ay m o px py vx vy 0)) (K1 : Hid (KCk k2 r2 ax2 ay2 m2 o2 px2 py2 vx2 vy2 e1)) (w : World) (F0 : Fac w) : Calls Tryd.prog 6 #[.agg #[.int .u32 k, .int .i32 r, .int .i32 ax, .int .i32 ay, .int .i32 m, .int .i32 o, .int .i32 px, .int .i32 py, .int .i32 vx, .int .i32 vy], .agg #[.int .u32 k2, .int .i32 r2, .int .i32 ax2, .int .i32 ay2, .int .i32 m2, .int .i32 o2, .int .i32 px2, .int .i32 py2, .int .i32 vx2, .int .i32 vy2]] w fun e w' => e = .returned (.bool true) ∧ Kep w.heap.size w w' := by
  go_enter Tryd.func6, Tryd.ntmps6
  go_wp2_with (first
    | ((with_reducible refine (AW.out _ (F0.kep (by (repeat (first | with_reducible assumption | refine kep_more ?_ _ | refine kep_drew ?_ | exact Kep.refl _ _))))).mono ?_); rintro e w1 ⟨rfl, g1⟩
       first
         | (replace gg := kep_next gg g1)
         | (have c0 := Kep.all g1 (a := ⟨w.heap.size, 0, none⟩) (v := .int .u32 k) (by (repeat (first | rw [World.cell?_drew] | rw [World.cell?_alloc_past _ _ _ (by first | (simp; done) | (simp; omega))])); rw [World.cell?_alloc_at _ _ _ _ (by simp)]; rfl)
            have c1 := Kep.all g1 (a := ⟨w.heap.size, 1, none⟩) (v := .int .i32 r) (by (repeat (first | rw [World.cell?_drew] | rw [World.cell?_alloc_past _ _ _ (by first | (simp; done) | (simp; omega))])); rw [World.cell?_alloc_at _ _ _ _ (by simp)]; rfl)
            have c2 := Kep.all g1 (a := ⟨w.heap.size, 2, none⟩) (v := .int .i32 ax) (by (repeat (first | rw [World.cell?_drew] | rw [World.cell?_alloc_past _ _ _ (by first | (simp; done) | (simp; omega))])); rw [World.cell?_alloc_at _ _ _ _ (by simp)]; rfl)
            have c3 := Kep.all g1 (a := ⟨w.heap.size, 3, none⟩) (v := .int .i32 ay) (by (repeat (first | rw [World.cell?_drew] | rw [World.cell?_alloc_past _ _ _ (by first | (simp; done) | (simp; omega))])); rw [World.cell?_alloc_at _ _ _ _ (by simp)]; rfl)
            have c4 := Kep.all g1 (a := ⟨w.heap.size, 4, none⟩) (v := .int .i32 m) (by (repeat (first | rw [World.cell?_drew] | rw [World.cell?_alloc_past _ _ _ (by first | (simp; done) | (simp; omega))])); rw [World.cell?_alloc_at _ _ _ _ (by simp)]; rfl)
            have c5 := Kep.all g1 (a := ⟨w.heap.size, 5, none⟩) (v := .int .i32 o) (by (repeat (first | rw [World.cell?_drew] | rw [World.cell?_alloc_past _ _ _ (by first | (simp; done) | (simp; omega))])); rw [World.cell?_alloc_at _ _ _ _ (by simp)]; rfl)
            have c6 := Kep.all g1 (a := ⟨w.heap.size, 6, none⟩) (v := .int .i32 px) (by (repeat (first | rw [World.cell?_drew] | rw [World.cell?_alloc_past _ _ _ (by first | (simp; done) | (simp; omega))])); rw [World.cell?_alloc_at _ _ _ _ (by simp)]; rfl)
            have c7 := Kep.all g1 (a := ⟨w.heap.size, 7, none⟩) (v := .int .i32 py) (by (repeat (first | rw [World.cell?_drew] | rw [World.cell?_alloc_past _ _ _ (by first | (simp; done) | (simp; omega))])); rw [World.cell?_alloc_at _ _ _ _ (by simp)]; rfl)
            have c8 := Kep.all g1 (a := ⟨w.heap.size, 8, none⟩) (v := .int .i32 vx) (by (repeat (first | rw [World.cell?_drew] | rw [World.cell?_alloc_past _ _ _ (by first | (simp; done) | (simp; omega))])); rw [World.cell?_alloc_at _ _ _ _ (by simp)]; rfl)
            have c9 := Kep.all g1 (a := ⟨w.heap.size, 9, none⟩) (v := .int .i32 vy) (by (repeat (first | rw [World.cell?_drew] | rw [World.cell?_alloc_past _ _ _ (by first | (simp; done) | (simp; omega))])); rw [World.cell?_alloc_at _ _ _ _ (by simp)]; rfl)
            have d0 := Kep.all g1 (a := ⟨w.heap.size + 1, 0, none⟩) (v := .int .u32 k2) (by (repeat (first | rw [World.cell?_drew] | rw [World.cell?_alloc_past _ _ _ (by first | (simp; done) | (simp; omega))])); rw [World.cell?_alloc_at _ _ _ _ (by simp)]; rfl)
            have d1 := Kep.all g1 (a := ⟨w.heap.size + 1, 1, none⟩) (v := .int .i32 r2) (by (repeat (first | rw [World.cell?_drew] | rw [World.cell?_alloc_past _ _ _ (by first | (simp; done) | (simp; omega))])); rw [World.cell?_alloc_at _ _ _ _ (by simp)]; rfl)
            have d2 := Kep.all g1 (a := ⟨w.heap.size + 1, 2, none⟩) (v := .int .i32 ax2) (by (repeat (first | rw [World.cell?_drew] | rw [World.cell?_alloc_past _ _ _ (by first | (simp; done) | (simp; omega))])); rw [World.cell?_alloc_at _ _ _ _ (by simp)]; rfl)
            have d3 := Kep.all g1 (a := ⟨w.heap.size + 1, 3, none⟩) (v := .int .i32 ay2) (by (repeat (first | rw [World.cell?_drew] | rw [World.cell?_alloc_past _ _ _ (by first | (simp; done) | (simp; omega))])); rw [World.cell?_alloc_at _ _ _ _ (by simp)]; rfl)
            have d4 := Kep.all g1 (a := ⟨w.heap.size + 1, 4, none⟩) (v := .int .i32 m2) (by (repeat (first | rw [World.cell?_drew] | rw [World.cell?_alloc_past _ _ _ (by first | (simp; done) | (simp; omega))])); rw [World.cell?_alloc_at _ _ _ _ (by simp)]; rfl)
            have d5 := Kep.all g1 (a := ⟨w.heap.size + 1, 5, none⟩) (v := .int .i32 o2) (by (repeat (first | rw [World.cell?_drew] | rw [World.cell?_alloc_past _ _ _ (by first | (simp; done) | (simp; omega))])); rw [World.cell?_alloc_at _ _ _ _ (by simp)]; rfl)
            have d6 := Kep.all g1 (a := ⟨w.heap.size + 1, 6, none⟩) (v := .int .i32 px2) (by (repeat (first | rw [World.cell?_drew] | rw [World.cell?_alloc_past _ _ _ (by first | (simp; done) | (simp; omega))])); rw [World.cell?_alloc_at _ _ _ _ (by simp)]; rfl)
            have d7 := Kep.all g1 (a := ⟨w.heap.size + 1, 7, none⟩) (v := .int .i32 py2) (by (repeat (first | rw [World.cell?_drew] | rw [World.cell?_alloc_past _ _ _ (by first | (simp; done) | (simp; omega))])); rw [World.cell?_alloc_at _ _ _ _ (by simp)]; rfl)
            have d8 := Kep.all g1 (a := ⟨w.heap.size + 1, 8, none⟩) (v := .int .i32 vx2) (by (repeat (first | rw [World.cell?_drew] | rw [World.cell?_alloc_past _ _ _ (by first | (simp; done) | (simp; omega))])); rw [World.cell?_alloc_at _ _ _ _ (by simp)]; rfl)
            have d9 := Kep.all g1 (a := ⟨w.heap.size + 1, 9, none⟩) (v := .int .i32 vy2) (by (repeat (first | rw [World.cell?_drew] | rw [World.cell?_alloc_past _ _ _ (by first | (simp; done) | (simp; omega))])); rw [World.cell?_alloc_at _ _ _ _ (by simp)]; rfl)
            have gg := kep_next (kep_more (kep_more (Kep.refl _ _) _) _) g1))
    | ((with_reducible refine (K0.out _).mono ?_); rintro e w2 ⟨rfl, g2⟩
       replace c0 := Kep.all g2 (a := ⟨w.heap.size, 0, none⟩) (v := .int .u32 k) c0
       replace c1 := Kep.all g2 (a := ⟨w.heap.size, 1, none⟩) (v := .int .i32 r) c1
       replace c2 := Kep.all g2 (a := ⟨w.heap.size, 2, none⟩) (v := .int .i32 ax) c2
       replace c3 := Kep.all g2 (a := ⟨w.heap.size, 3, none⟩) (v := .int .i32 ay) c3
       replace c4 := Kep.all g2 (a := ⟨w.heap.size, 4, none⟩) (v := .int .i32 m) c4
       replace c5 := Kep.all g2 (a := ⟨w.heap.size, 5, none⟩) (v := .int .i32 o) c5
       replace c6 := Kep.all g2 (a := ⟨w.heap.size, 6, none⟩) (v := .int .i32 px) c6
       replace c7 := Kep.all g2 (a := ⟨w.heap.size, 7, none⟩) (v := .int .i32 py) c7
       replace c8 := Kep.all g2 (a := ⟨w.heap.size, 8, none⟩) (v := .int .i32 vx) c8
       replace c9 := Kep.all g2 (a := ⟨w.heap.size, 9, none⟩) (v := .int .i32 vy) c9
       replace d0 := Kep.all g2 (a := ⟨w.heap.size + 1, 0, none⟩) (v := .int .u32 k2) d0
       replace d1 := Kep.all g2 (a := ⟨w.heap.size + 1, 1, none⟩) (v := .int .i32 r2) d1
       replace d2 := Kep.all g2 (a := ⟨w.heap.size + 1, 2, none⟩) (v := .int .i32 ax2) d2
       replace d3 := Kep.all g2 (a := ⟨w.heap.size + 1, 3, none⟩) (v := .int .i32 ay2) d3
       replace d4 := Kep.all g2 (a := ⟨w.heap.size + 1, 4, none⟩) (v := .int .i32 m2) d4
       replace d5 := Kep.all g2 (a := ⟨w.heap.size + 1, 5, none⟩) (v := .int .i32 o2) d5
       replace d6 := Kep.all g2 (a := ⟨w.heap.size + 1, 6, none⟩) (v := .int .i32 px2) d6
       replace d7 := Kep.all g2 (a := ⟨w.heap.size + 1, 7, none⟩) (v := .int .i32 py2) d7
       replace d8 := Kep.all g2 (a := ⟨w.heap.size + 1, 8, none⟩) (v := .int .i32 vx2) d8
       replace d9 := Kep.all g2 (a := ⟨w.heap.size + 1, 9, none⟩) (v := .int .i32 vy2) d9
       replace gg := kep_next gg g2
       have zc_w2 : w.heap.size < w2.heap.size := World.block_lt_of_cell? _ _ c0
       have zd_w2 : w.heap.size + 1 < w2.heap.size := World.block_lt_of_cell? _ _ d0)
    | ((with_reducible refine (K1.out _).mono ?_); rintro e w3 ⟨rfl, g3⟩
       replace c0 := Kep.all g3 (a := ⟨w.heap.size, 0, none⟩) (v := .int .u32 k) c0
       replace c1 := Kep.all g3 (a := ⟨w.heap.size, 1, none⟩) (v := .int .i32 r) c1
       replace c2 := Kep.all g3 (a := ⟨w.heap.size, 2, none⟩) (v := .int .i32 ax) c2
       replace c3 := Kep.all g3 (a := ⟨w.heap.size, 3, none⟩) (v := .int .i32 ay) c3
       replace c4 := Kep.all g3 (a := ⟨w.heap.size, 4, none⟩) (v := .int .i32 m) c4
       replace c5 := Kep.all g3 (a := ⟨w.heap.size, 5, none⟩) (v := .int .i32 o) c5
       replace c6 := Kep.all g3 (a := ⟨w.heap.size, 6, none⟩) (v := .int .i32 px) c6
       replace c7 := Kep.all g3 (a := ⟨w.heap.size, 7, none⟩) (v := .int .i32 py) c7
       replace c8 := Kep.all g3 (a := ⟨w.heap.size, 8, none⟩) (v := .int .i32 vx) c8
       replace c9 := Kep.all g3 (a := ⟨w.heap.size, 9, none⟩) (v := .int .i32 vy) c9
       replace d0 := Kep.all g3 (a := ⟨w.heap.size + 1, 0, none⟩) (v := .int .u32 k2) d0
       replace d1 := Kep.all g3 (a := ⟨w.heap.size + 1, 1, none⟩) (v := .int .i32 r2) d1
       replace d2 := Kep.all g3 (a := ⟨w.heap.size + 1, 2, none⟩) (v := .int .i32 ax2) d2
       replace d3 := Kep.all g3 (a := ⟨w.heap.size + 1, 3, none⟩) (v := .int .i32 ay2) d3
       replace d4 := Kep.all g3 (a := ⟨w.heap.size + 1, 4, none⟩) (v := .int .i32 m2) d4
       replace d5 := Kep.all g3 (a := ⟨w.heap.size + 1, 5, none⟩) (v := .int .i32 o2) d5
       replace d6 := Kep.all g3 (a := ⟨w.heap.size + 1, 6, none⟩) (v := .int .i32 px2) d6
       replace d7 := Kep.all g3 (a := ⟨w.heap.size + 1, 7, none⟩) (v := .int .i32 py2) d7
       replace d8 := Kep.all g3 (a := ⟨w.heap.size + 1, 8, none⟩) (v := .int .i32 vx2) d8
       replace d9 := Kep.all g3 (a := ⟨w.heap.size + 1, 9, none⟩) (v := .int .i32 vy2) d9
       replace gg := kep_next gg g3
       have zc_w3 : w.heap.size < w3.heap.size := World.block_lt_of_cell? _ _ c0
       have zd_w3 : w.heap.size + 1 < w3.heap.size := World.block_lt_of_cell? _ _ d0))
  go_ret
  exact ⟨rfl, gg⟩
set_option maxRecDepth 100000 in
set_option maxHeartbeats 8000000 in
theorem cdl_no (k r ax ay m o px py vx vy k2 r2 ax2 ay2 m2 o2 px2 py2 vx2 vy2 p0 q0 u0 v0 p1 q1 u1 v1 : Int) (L1 L2 : List (Int × Int)) (hL1 : L1.length ≤ 25) (hL0 : 0 < L1.length) (hL2 : L2.length ≤ 25) (AW : Hid CAwake) (K0 : Hid (KCk k r ax ay m o px py vx vy 0)) (K1 : Hid (KCk k2 r2 ax2 ay2 m2 o2 px2 py2 vx2 vy2 0)) (B1 : Hid (CxO k r ax ay m o px py vx vy p0 q0 u0 v0)) (B2 : Hid (CxO k2 r2 ax2 ay2 m2 o2 px2 py2 vx2 vy2 p1 q1 u1 v1)) (A1 : Hid (CeA p0 q0 u0 v0 L1)) (A2 : Hid (CeA p1 q1 u1 v1 L2)) (R1 : Hid (KOf k r ax ay m o px py vx vy p0 q0 u0 v0)) (R2 : Hid (KOf k2 r2 ax2 ay2 m2 o2 px2 py2 vx2 vy2 p1 q1 u1 v1)) (V1 : Hid (KOv p0 q0 u0 v0 p1 q1 u1 v1 false)) (w : World) (F0 : Fac w) :
    Calls Tryd.prog 6 #[.agg #[.int .u32 k, .int .i32 r, .int .i32 ax, .int .i32 ay, .int .i32 m, .int .i32 o, .int .i32 px, .int .i32 py, .int .i32 vx, .int .i32 vy], .agg #[.int .u32 k2, .int .i32 r2, .int .i32 ax2, .int .i32 ay2, .int .i32 m2, .int .i32 o2, .int .i32 px2, .int .i32 py2, .int .i32 vx2, .int .i32 vy2]] w fun e w' => e = .returned (.bool true) ∧ Kep w.heap.size w w' := by
  have l1 : decide ((25 : Int) < (L1.length : Int)) = false := decide_eq_false (by omega)
  have l2 : decide ((25 : Int) < (L2.length : Int)) = false := decide_eq_false (by omega)
  have l3 : ((L1.length : Int) == 0) = false := beq_eq_false_iff_ne.2 (by omega)
  go_enter Tryd.func6, Tryd.ntmps6
  go_wp2_with (first
    | ((with_reducible refine (AW.out _ (F0.kep (by (repeat (first | with_reducible assumption | refine kep_more ?_ _ | refine kep_drew ?_ | exact Kep.refl _ _))))).mono ?_); rintro e w1 ⟨rfl, g1⟩
       have c0 := Kep.all g1 (a := ⟨w.heap.size, 0, none⟩) (v := .int .u32 k) (by (repeat (first | rw [World.cell?_drew] | rw [World.cell?_alloc_past _ _ _ (by first | (simp; done) | (simp; omega))])); rw [World.cell?_alloc_at _ _ _ _ (by simp)]; rfl)
       have c1 := Kep.all g1 (a := ⟨w.heap.size, 1, none⟩) (v := .int .i32 r) (by (repeat (first | rw [World.cell?_drew] | rw [World.cell?_alloc_past _ _ _ (by first | (simp; done) | (simp; omega))])); rw [World.cell?_alloc_at _ _ _ _ (by simp)]; rfl)
       have c2 := Kep.all g1 (a := ⟨w.heap.size, 2, none⟩) (v := .int .i32 ax) (by (repeat (first | rw [World.cell?_drew] | rw [World.cell?_alloc_past _ _ _ (by first | (simp; done) | (simp; omega))])); rw [World.cell?_alloc_at _ _ _ _ (by simp)]; rfl)
       have c3 := Kep.all g1 (a := ⟨w.heap.size, 3, none⟩) (v := .int .i32 ay) (by (repeat (first | rw [World.cell?_drew] | rw [World.cell?_alloc_past _ _ _ (by first | (simp; done) | (simp; omega))])); rw [World.cell?_alloc_at _ _ _ _ (by simp)]; rfl)
       have c4 := Kep.all g1 (a := ⟨w.heap.size, 4, none⟩) (v := .int .i32 m) (by (repeat (first | rw [World.cell?_drew] | rw [World.cell?_alloc_past _ _ _ (by first | (simp; done) | (simp; omega))])); rw [World.cell?_alloc_at _ _ _ _ (by simp)]; rfl)
       have c5 := Kep.all g1 (a := ⟨w.heap.size, 5, none⟩) (v := .int .i32 o) (by (repeat (first | rw [World.cell?_drew] | rw [World.cell?_alloc_past _ _ _ (by first | (simp; done) | (simp; omega))])); rw [World.cell?_alloc_at _ _ _ _ (by simp)]; rfl)
       have c6 := Kep.all g1 (a := ⟨w.heap.size, 6, none⟩) (v := .int .i32 px) (by (repeat (first | rw [World.cell?_drew] | rw [World.cell?_alloc_past _ _ _ (by first | (simp; done) | (simp; omega))])); rw [World.cell?_alloc_at _ _ _ _ (by simp)]; rfl)
       have c7 := Kep.all g1 (a := ⟨w.heap.size, 7, none⟩) (v := .int .i32 py) (by (repeat (first | rw [World.cell?_drew] | rw [World.cell?_alloc_past _ _ _ (by first | (simp; done) | (simp; omega))])); rw [World.cell?_alloc_at _ _ _ _ (by simp)]; rfl)
       have c8 := Kep.all g1 (a := ⟨w.heap.size, 8, none⟩) (v := .int .i32 vx) (by (repeat (first | rw [World.cell?_drew] | rw [World.cell?_alloc_past _ _ _ (by first | (simp; done) | (simp; omega))])); rw [World.cell?_alloc_at _ _ _ _ (by simp)]; rfl)
       have c9 := Kep.all g1 (a := ⟨w.heap.size, 9, none⟩) (v := .int .i32 vy) (by (repeat (first | rw [World.cell?_drew] | rw [World.cell?_alloc_past _ _ _ (by first | (simp; done) | (simp; omega))])); rw [World.cell?_alloc_at _ _ _ _ (by simp)]; rfl)
       have d0 := Kep.all g1 (a := ⟨w.heap.size + 1, 0, none⟩) (v := .int .u32 k2) (by (repeat (first | rw [World.cell?_drew] | rw [World.cell?_alloc_past _ _ _ (by first | (simp; done) | (simp; omega))])); rw [World.cell?_alloc_at _ _ _ _ (by simp)]; rfl)
       have d1 := Kep.all g1 (a := ⟨w.heap.size + 1, 1, none⟩) (v := .int .i32 r2) (by (repeat (first | rw [World.cell?_drew] | rw [World.cell?_alloc_past _ _ _ (by first | (simp; done) | (simp; omega))])); rw [World.cell?_alloc_at _ _ _ _ (by simp)]; rfl)
       have d2 := Kep.all g1 (a := ⟨w.heap.size + 1, 2, none⟩) (v := .int .i32 ax2) (by (repeat (first | rw [World.cell?_drew] | rw [World.cell?_alloc_past _ _ _ (by first | (simp; done) | (simp; omega))])); rw [World.cell?_alloc_at _ _ _ _ (by simp)]; rfl)
       have d3 := Kep.all g1 (a := ⟨w.heap.size + 1, 3, none⟩) (v := .int .i32 ay2) (by (repeat (first | rw [World.cell?_drew] | rw [World.cell?_alloc_past _ _ _ (by first | (simp; done) | (simp; omega))])); rw [World.cell?_alloc_at _ _ _ _ (by simp)]; rfl)
       have d4 := Kep.all g1 (a := ⟨w.heap.size + 1, 4, none⟩) (v := .int .i32 m2) (by (repeat (first | rw [World.cell?_drew] | rw [World.cell?_alloc_past _ _ _ (by first | (simp; done) | (simp; omega))])); rw [World.cell?_alloc_at _ _ _ _ (by simp)]; rfl)
       have d5 := Kep.all g1 (a := ⟨w.heap.size + 1, 5, none⟩) (v := .int .i32 o2) (by (repeat (first | rw [World.cell?_drew] | rw [World.cell?_alloc_past _ _ _ (by first | (simp; done) | (simp; omega))])); rw [World.cell?_alloc_at _ _ _ _ (by simp)]; rfl)
       have d6 := Kep.all g1 (a := ⟨w.heap.size + 1, 6, none⟩) (v := .int .i32 px2) (by (repeat (first | rw [World.cell?_drew] | rw [World.cell?_alloc_past _ _ _ (by first | (simp; done) | (simp; omega))])); rw [World.cell?_alloc_at _ _ _ _ (by simp)]; rfl)
       have d7 := Kep.all g1 (a := ⟨w.heap.size + 1, 7, none⟩) (v := .int .i32 py2) (by (repeat (first | rw [World.cell?_drew] | rw [World.cell?_alloc_past _ _ _ (by first | (simp; done) | (simp; omega))])); rw [World.cell?_alloc_at _ _ _ _ (by simp)]; rfl)
       have d8 := Kep.all g1 (a := ⟨w.heap.size + 1, 8, none⟩) (v := .int .i32 vx2) (by (repeat (first | rw [World.cell?_drew] | rw [World.cell?_alloc_past _ _ _ (by first | (simp; done) | (simp; omega))])); rw [World.cell?_alloc_at _ _ _ _ (by simp)]; rfl)
       have d9 := Kep.all g1 (a := ⟨w.heap.size + 1, 9, none⟩) (v := .int .i32 vy2) (by (repeat (first | rw [World.cell?_drew] | rw [World.cell?_alloc_past _ _ _ (by first | (simp; done) | (simp; omega))])); rw [World.cell?_alloc_at _ _ _ _ (by simp)]; rfl)
       have gg := kep_next (kep_more (kep_more (Kep.refl _ _) _) _) g1
       have zc_w1 : w.heap.size < w1.heap.size := World.block_lt_of_cell? _ _ c0
       have zd_w1 : w.heap.size + 1 < w1.heap.size := World.block_lt_of_cell? _ _ d0)
    | ((with_reducible refine (K0.out _).mono ?_); rintro e w2 ⟨rfl, g2⟩
       replace c0 := Kep.all g2 (a := ⟨w.heap.size, 0, none⟩) (v := .int .u32 k) c0
       replace c1 := Kep.all g2 (a := ⟨w.heap.size, 1, none⟩) (v := .int .i32 r) c1
       replace c2 := Kep.all g2 (a := ⟨w.heap.size, 2, none⟩) (v := .int .i32 ax) c2
       replace c3 := Kep.all g2 (a := ⟨w.heap.size, 3, none⟩) (v := .int .i32 ay) c3
       replace c4 := Kep.all g2 (a := ⟨w.heap.size, 4, none⟩) (v := .int .i32 m) c4
       replace c5 := Kep.all g2 (a := ⟨w.heap.size, 5, none⟩) (v := .int .i32 o) c5
       replace c6 := Kep.all g2 (a := ⟨w.heap.size, 6, none⟩) (v := .int .i32 px) c6
       replace c7 := Kep.all g2 (a := ⟨w.heap.size, 7, none⟩) (v := .int .i32 py) c7
       replace c8 := Kep.all g2 (a := ⟨w.heap.size, 8, none⟩) (v := .int .i32 vx) c8
       replace c9 := Kep.all g2 (a := ⟨w.heap.size, 9, none⟩) (v := .int .i32 vy) c9
       replace d0 := Kep.all g2 (a := ⟨w.heap.size + 1, 0, none⟩) (v := .int .u32 k2) d0
       replace d1 := Kep.all g2 (a := ⟨w.heap.size + 1, 1, none⟩) (v := .int .i32 r2) d1
       replace d2 := Kep.all g2 (a := ⟨w.heap.size + 1, 2, none⟩) (v := .int .i32 ax2) d2
       replace d3 := Kep.all g2 (a := ⟨w.heap.size + 1, 3, none⟩) (v := .int .i32 ay2) d3
       replace d4 := Kep.all g2 (a := ⟨w.heap.size + 1, 4, none⟩) (v := .int .i32 m2) d4
       replace d5 := Kep.all g2 (a := ⟨w.heap.size + 1, 5, none⟩) (v := .int .i32 o2) d5
       replace d6 := Kep.all g2 (a := ⟨w.heap.size + 1, 6, none⟩) (v := .int .i32 px2) d6
       replace d7 := Kep.all g2 (a := ⟨w.heap.size + 1, 7, none⟩) (v := .int .i32 py2) d7
       replace d8 := Kep.all g2 (a := ⟨w.heap.size + 1, 8, none⟩) (v := .int .i32 vx2) d8
       replace d9 := Kep.all g2 (a := ⟨w.heap.size + 1, 9, none⟩) (v := .int .i32 vy2) d9
       replace gg := kep_next gg g2
       have zc_w2 : w.heap.size < w2.heap.size := World.block_lt_of_cell? _ _ c0
       have zd_w2 : w.heap.size + 1 < w2.heap.size := World.block_lt_of_cell? _ _ d0)
    | ((with_reducible refine (K1.out _).mono ?_); rintro e w3 ⟨rfl, g3⟩
       replace c0 := Kep.all g3 (a := ⟨w.heap.size, 0, none⟩) (v := .int .u32 k) c0
       replace c1 := Kep.all g3 (a := ⟨w.heap.size, 1, none⟩) (v := .int .i32 r) c1
       replace c2 := Kep.all g3 (a := ⟨w.heap.size, 2, none⟩) (v := .int .i32 ax) c2
       replace c3 := Kep.all g3 (a := ⟨w.heap.size, 3, none⟩) (v := .int .i32 ay) c3
       replace c4 := Kep.all g3 (a := ⟨w.heap.size, 4, none⟩) (v := .int .i32 m) c4
       replace c5 := Kep.all g3 (a := ⟨w.heap.size, 5, none⟩) (v := .int .i32 o) c5
       replace c6 := Kep.all g3 (a := ⟨w.heap.size, 6, none⟩) (v := .int .i32 px) c6
       replace c7 := Kep.all g3 (a := ⟨w.heap.size, 7, none⟩) (v := .int .i32 py) c7
       replace c8 := Kep.all g3 (a := ⟨w.heap.size, 8, none⟩) (v := .int .i32 vx) c8
       replace c9 := Kep.all g3 (a := ⟨w.heap.size, 9, none⟩) (v := .int .i32 vy) c9
       replace d0 := Kep.all g3 (a := ⟨w.heap.size + 1, 0, none⟩) (v := .int .u32 k2) d0
       replace d1 := Kep.all g3 (a := ⟨w.heap.size + 1, 1, none⟩) (v := .int .i32 r2) d1
       replace d2 := Kep.all g3 (a := ⟨w.heap.size + 1, 2, none⟩) (v := .int .i32 ax2) d2
       replace d3 := Kep.all g3 (a := ⟨w.heap.size + 1, 3, none⟩) (v := .int .i32 ay2) d3
       replace d4 := Kep.all g3 (a := ⟨w.heap.size + 1, 4, none⟩) (v := .int .i32 m2) d4
       replace d5 := Kep.all g3 (a := ⟨w.heap.size + 1, 5, none⟩) (v := .int .i32 o2) d5
       replace d6 := Kep.all g3 (a := ⟨w.heap.size + 1, 6, none⟩) (v := .int .i32 px2) d6
       replace d7 := Kep.all g3 (a := ⟨w.heap.size + 1, 7, none⟩) (v := .int .i32 py2) d7
       replace d8 := Kep.all g3 (a := ⟨w.heap.size + 1, 8, none⟩) (v := .int .i32 vx2) d8
       replace d9 := Kep.all g3 (a := ⟨w.heap.size + 1, 9, none⟩) (v := .int .i32 vy2) d9
       replace gg := kep_next gg g3
       have zc_w3 : w.heap.size < w3.heap.size := World.block_lt_of_cell? _ _ c0
       have zd_w3 : w.heap.size + 1 < w3.heap.size := World.block_lt_of_cell? _ _ d0)
    | ((with_reducible refine (B1.out _).mono ?_); rintro e w4 ⟨rfl, g4⟩
       replace c0 := Kep.all g4 (a := ⟨w.heap.size, 0, none⟩) (v := .int .u32 k) c0
       replace c1 := Kep.all g4 (a := ⟨w.heap.size, 1, none⟩) (v := .int .i32 r) c1
       replace c2 := Kep.all g4 (a := ⟨w.heap.size, 2, none⟩) (v := .int .i32 ax) c2
       replace c3 := Kep.all g4 (a := ⟨w.heap.size, 3, none⟩) (v := .int .i32 ay) c3
       replace c4 := Kep.all g4 (a := ⟨w.heap.size, 4, none⟩) (v := .int .i32 m) c4
       replace c5 := Kep.all g4 (a := ⟨w.heap.size, 5, none⟩) (v := .int .i32 o) c5
       replace c6 := Kep.all g4 (a := ⟨w.heap.size, 6, none⟩) (v := .int .i32 px) c6
       replace c7 := Kep.all g4 (a := ⟨w.heap.size, 7, none⟩) (v := .int .i32 py) c7
       replace c8 := Kep.all g4 (a := ⟨w.heap.size, 8, none⟩) (v := .int .i32 vx) c8
       replace c9 := Kep.all g4 (a := ⟨w.heap.size, 9, none⟩) (v := .int .i32 vy) c9
       replace d0 := Kep.all g4 (a := ⟨w.heap.size + 1, 0, none⟩) (v := .int .u32 k2) d0
       replace d1 := Kep.all g4 (a := ⟨w.heap.size + 1, 1, none⟩) (v := .int .i32 r2) d1
       replace d2 := Kep.all g4 (a := ⟨w.heap.size + 1, 2, none⟩) (v := .int .i32 ax2) d2
       replace d3 := Kep.all g4 (a := ⟨w.heap.size + 1, 3, none⟩) (v := .int .i32 ay2) d3
       replace d4 := Kep.all g4 (a := ⟨w.heap.size + 1, 4, none⟩) (v := .int .i32 m2) d4
       replace d5 := Kep.all g4 (a := ⟨w.heap.size + 1, 5, none⟩) (v := .int .i32 o2) d5
       replace d6 := Kep.all g4 (a := ⟨w.heap.size + 1, 6, none⟩) (v := .int .i32 px2) d6
       replace d7 := Kep.all g4 (a := ⟨w.heap.size + 1, 7, none⟩) (v := .int .i32 py2) d7
       replace d8 := Kep.all g4 (a := ⟨w.heap.size + 1, 8, none⟩) (v := .int .i32 vx2) d8
       replace d9 := Kep.all g4 (a := ⟨w.heap.size + 1, 9, none⟩) (v := .int .i32 vy2) d9
       replace gg := kep_next gg g4
       have zc_w4 : w.heap.size < w4.heap.size := World.block_lt_of_cell? _ _ c0
       have zd_w4 : w.heap.size + 1 < w4.heap.size := World.block_lt_of_cell? _ _ d0)
    | ((with_reducible refine (A1.out _).mono ?_); rintro e w5 ⟨ls, rfl, qa, g5⟩
       obtain ⟨base, cap, rfl⟩ := qa.shape
       replace c0 := Kep.all g5 (a := ⟨w.heap.size, 0, none⟩) (v := .int .u32 k) c0
       replace c1 := Kep.all g5 (a := ⟨w.heap.size, 1, none⟩) (v := .int .i32 r) c1
       replace c2 := Kep.all g5 (a := ⟨w.heap.size, 2, none⟩) (v := .int .i32 ax) c2
       replace c3 := Kep.all g5 (a := ⟨w.heap.size, 3, none⟩) (v := .int .i32 ay) c3
       replace c4 := Kep.all g5 (a := ⟨w.heap.size, 4, none⟩) (v := .int .i32 m) c4
       replace c5 := Kep.all g5 (a := ⟨w.heap.size, 5, none⟩) (v := .int .i32 o) c5
       replace c6 := Kep.all g5 (a := ⟨w.heap.size, 6, none⟩) (v := .int .i32 px) c6
       replace c7 := Kep.all g5 (a := ⟨w.heap.size, 7, none⟩) (v := .int .i32 py) c7
       replace c8 := Kep.all g5 (a := ⟨w.heap.size, 8, none⟩) (v := .int .i32 vx) c8
       replace c9 := Kep.all g5 (a := ⟨w.heap.size, 9, none⟩) (v := .int .i32 vy) c9
       replace d0 := Kep.all g5 (a := ⟨w.heap.size + 1, 0, none⟩) (v := .int .u32 k2) d0
       replace d1 := Kep.all g5 (a := ⟨w.heap.size + 1, 1, none⟩) (v := .int .i32 r2) d1
       replace d2 := Kep.all g5 (a := ⟨w.heap.size + 1, 2, none⟩) (v := .int .i32 ax2) d2
       replace d3 := Kep.all g5 (a := ⟨w.heap.size + 1, 3, none⟩) (v := .int .i32 ay2) d3
       replace d4 := Kep.all g5 (a := ⟨w.heap.size + 1, 4, none⟩) (v := .int .i32 m2) d4
       replace d5 := Kep.all g5 (a := ⟨w.heap.size + 1, 5, none⟩) (v := .int .i32 o2) d5
       replace d6 := Kep.all g5 (a := ⟨w.heap.size + 1, 6, none⟩) (v := .int .i32 px2) d6
       replace d7 := Kep.all g5 (a := ⟨w.heap.size + 1, 7, none⟩) (v := .int .i32 py2) d7
       replace d8 := Kep.all g5 (a := ⟨w.heap.size + 1, 8, none⟩) (v := .int .i32 vx2) d8
       replace d9 := Kep.all g5 (a := ⟨w.heap.size + 1, 9, none⟩) (v := .int .i32 vy2) d9
       replace gg := kep_next gg g5
       have zc_w5 : w.heap.size < w5.heap.size := World.block_lt_of_cell? _ _ c0
       have zd_w5 : w.heap.size + 1 < w5.heap.size := World.block_lt_of_cell? _ _ d0)
    | ((with_reducible refine (B2.out _).mono ?_); rintro e w6 ⟨rfl, g6⟩
       replace qa := qa.kep g6
       replace c0 := Kep.all g6 (a := ⟨w.heap.size, 0, none⟩) (v := .int .u32 k) c0
       replace c1 := Kep.all g6 (a := ⟨w.heap.size, 1, none⟩) (v := .int .i32 r) c1
       replace c2 := Kep.all g6 (a := ⟨w.heap.size, 2, none⟩) (v := .int .i32 ax) c2
       replace c3 := Kep.all g6 (a := ⟨w.heap.size, 3, none⟩) (v := .int .i32 ay) c3
       replace c4 := Kep.all g6 (a := ⟨w.heap.size, 4, none⟩) (v := .int .i32 m) c4
       replace c5 := Kep.all g6 (a := ⟨w.heap.size, 5, none⟩) (v := .int .i32 o) c5
       replace c6 := Kep.all g6 (a := ⟨w.heap.size, 6, none⟩) (v := .int .i32 px) c6
       replace c7 := Kep.all g6 (a := ⟨w.heap.size, 7, none⟩) (v := .int .i32 py) c7
       replace c8 := Kep.all g6 (a := ⟨w.heap.size, 8, none⟩) (v := .int .i32 vx) c8
       replace c9 := Kep.all g6 (a := ⟨w.heap.size, 9, none⟩) (v := .int .i32 vy) c9
       replace d0 := Kep.all g6 (a := ⟨w.heap.size + 1, 0, none⟩) (v := .int .u32 k2) d0
       replace d1 := Kep.all g6 (a := ⟨w.heap.size + 1, 1, none⟩) (v := .int .i32 r2) d1
       replace d2 := Kep.all g6 (a := ⟨w.heap.size + 1, 2, none⟩) (v := .int .i32 ax2) d2
       replace d3 := Kep.all g6 (a := ⟨w.heap.size + 1, 3, none⟩) (v := .int .i32 ay2) d3
       replace d4 := Kep.all g6 (a := ⟨w.heap.size + 1, 4, none⟩) (v := .int .i32 m2) d4
       replace d5 := Kep.all g6 (a := ⟨w.heap.size + 1, 5, none⟩) (v := .int .i32 o2) d5
       replace d6 := Kep.all g6 (a := ⟨w.heap.size + 1, 6, none⟩) (v := .int .i32 px2) d6
       replace d7 := Kep.all g6 (a := ⟨w.heap.size + 1, 7, none⟩) (v := .int .i32 py2) d7
       replace d8 := Kep.all g6 (a := ⟨w.heap.size + 1, 8, none⟩) (v := .int .i32 vx2) d8
       replace d9 := Kep.all g6 (a := ⟨w.heap.size + 1, 9, none⟩) (v := .int .i32 vy2) d9
       replace gg := kep_next gg g6
       have zc_w6 : w.heap.size < w6.heap.size := World.block_lt_of_cell? _ _ c0
       have zd_w6 : w.heap.size + 1 < w6.heap.size := World.block_lt_of_cell? _ _ d0)
    | ((with_reducible refine (A2.out _).mono ?_); rintro e w7 ⟨ms, rfl, qb, g7⟩
       obtain ⟨base2, cap2, rfl⟩ := qb.shape
       replace qa := qa.kep g7
       replace c0 := Kep.all g7 (a := ⟨w.heap.size, 0, none⟩) (v := .int .u32 k) c0
       replace c1 := Kep.all g7 (a := ⟨w.heap.size, 1, none⟩) (v := .int .i32 r) c1
       replace c2 := Kep.all g7 (a := ⟨w.heap.size, 2, none⟩) (v := .int .i32 ax) c2
       replace c3 := Kep.all g7 (a := ⟨w.heap.size, 3, none⟩) (v := .int .i32 ay) c3
       replace c4 := Kep.all g7 (a := ⟨w.heap.size, 4, none⟩) (v := .int .i32 m) c4
       replace c5 := Kep.all g7 (a := ⟨w.heap.size, 5, none⟩) (v := .int .i32 o) c5
       replace c6 := Kep.all g7 (a := ⟨w.heap.size, 6, none⟩) (v := .int .i32 px) c6
       replace c7 := Kep.all g7 (a := ⟨w.heap.size, 7, none⟩) (v := .int .i32 py) c7
       replace c8 := Kep.all g7 (a := ⟨w.heap.size, 8, none⟩) (v := .int .i32 vx) c8
       replace c9 := Kep.all g7 (a := ⟨w.heap.size, 9, none⟩) (v := .int .i32 vy) c9
       replace d0 := Kep.all g7 (a := ⟨w.heap.size + 1, 0, none⟩) (v := .int .u32 k2) d0
       replace d1 := Kep.all g7 (a := ⟨w.heap.size + 1, 1, none⟩) (v := .int .i32 r2) d1
       replace d2 := Kep.all g7 (a := ⟨w.heap.size + 1, 2, none⟩) (v := .int .i32 ax2) d2
       replace d3 := Kep.all g7 (a := ⟨w.heap.size + 1, 3, none⟩) (v := .int .i32 ay2) d3
       replace d4 := Kep.all g7 (a := ⟨w.heap.size + 1, 4, none⟩) (v := .int .i32 m2) d4
       replace d5 := Kep.all g7 (a := ⟨w.heap.size + 1, 5, none⟩) (v := .int .i32 o2) d5
       replace d6 := Kep.all g7 (a := ⟨w.heap.size + 1, 6, none⟩) (v := .int .i32 px2) d6
       replace d7 := Kep.all g7 (a := ⟨w.heap.size + 1, 7, none⟩) (v := .int .i32 py2) d7
       replace d8 := Kep.all g7 (a := ⟨w.heap.size + 1, 8, none⟩) (v := .int .i32 vx2) d8
       replace d9 := Kep.all g7 (a := ⟨w.heap.size + 1, 9, none⟩) (v := .int .i32 vy2) d9
       replace gg := kep_next gg g7
       have zc_w7 : w.heap.size < w7.heap.size := World.block_lt_of_cell? _ _ c0
       have zd_w7 : w.heap.size + 1 < w7.heap.size := World.block_lt_of_cell? _ _ d0))
  refine wp_region_noPanic ?_
  refine wp_region_held_drew (S := (fun w' => w'.cell? ⟨w.heap.size, 0, none⟩ = some (.int .u32 k) ∧ w'.cell? ⟨w.heap.size, 1, none⟩ = some (.int .i32 r) ∧ w'.cell? ⟨w.heap.size, 2, none⟩ = some (.int .i32 ax) ∧ w'.cell? ⟨w.heap.size, 3, none⟩ = some (.int .i32 ay) ∧ w'.cell? ⟨w.heap.size, 4, none⟩ = some (.int .i32 m) ∧ w'.cell? ⟨w.heap.size, 5, none⟩ = some (.int .i32 o) ∧ w'.cell? ⟨w.heap.size, 6, none⟩ = some (.int .i32 px) ∧ w'.cell? ⟨w.heap.size, 7, none⟩ = some (.int .i32 py) ∧ w'.cell? ⟨w.heap.size, 8, none⟩ = some (.int .i32 vx) ∧ w'.cell? ⟨w.heap.size, 9, none⟩ = some (.int .i32 vy) ∧ w'.cell? ⟨w.heap.size + 1, 0, none⟩ = some (.int .u32 k2) ∧ w'.cell? ⟨w.heap.size + 1, 1, none⟩ = some (.int .i32 r2) ∧ w'.cell? ⟨w.heap.size + 1, 2, none⟩ = some (.int .i32 ax2) ∧ w'.cell? ⟨w.heap.size + 1, 3, none⟩ = some (.int .i32 ay2) ∧ w'.cell? ⟨w.heap.size + 1, 4, none⟩ = some (.int .i32 m2) ∧ w'.cell? ⟨w.heap.size + 1, 5, none⟩ = some (.int .i32 o2) ∧ w'.cell? ⟨w.heap.size + 1, 6, none⟩ = some (.int .i32 px2) ∧ w'.cell? ⟨w.heap.size + 1, 7, none⟩ = some (.int .i32 py2) ∧ w'.cell? ⟨w.heap.size + 1, 8, none⟩ = some (.int .i32 vx2) ∧ w'.cell? ⟨w.heap.size + 1, 9, none⟩ = some (.int .i32 vy2) ∧ Kep w.heap.size w w')) (by kernel_rfl) (⟨by rw [World.cell?_drew]; exact c0, by rw [World.cell?_drew]; exact c1, by rw [World.cell?_drew]; exact c2, by rw [World.cell?_drew]; exact c3, by rw [World.cell?_drew]; exact c4, by rw [World.cell?_drew]; exact c5, by rw [World.cell?_drew]; exact c6, by rw [World.cell?_drew]; exact c7, by rw [World.cell?_drew]; exact c8, by rw [World.cell?_drew]; exact c9, by rw [World.cell?_drew]; exact d0, by rw [World.cell?_drew]; exact d1, by rw [World.cell?_drew]; exact d2, by rw [World.cell?_drew]; exact d3, by rw [World.cell?_drew]; exact d4, by rw [World.cell?_drew]; exact d5, by rw [World.cell?_drew]; exact d6, by rw [World.cell?_drew]; exact d7, by rw [World.cell?_drew]; exact d8, by rw [World.cell?_drew]; exact d9, kep_drew gg⟩) (fun hH => ?_)
  refine wpAnyH_take (i := 0) (oi := { dst := some 41, op := Op.load 52 (Operand.tmp 2), type := _, pos := _, after := _, guard := none }) (v := ?_) rfl (by kernel_rfl) (by kernel_rfl) (by kernel_rfl) (fun _ _ _ h => h) (Or.inl ⟨by rfl, ?_⟩) hH ?_
  rotate_left
  · (intro w hSw; (try dsimp only at hSw); go_simp; (try with_reducible rfl))
  try simp only [Act.put, List.setIfInBounds_toArray, List.set_cons_zero, List.set_cons_succ]
  refine wpAnyH_take (i := 2) (oi := { dst := some 43, op := Op.load 52 (Operand.tmp 3), type := _, pos := _, after := _, guard := none }) (v := ?_) rfl (by kernel_rfl) (by kernel_rfl) (by kernel_rfl) (fun _ _ _ h => h) (Or.inl ⟨by rfl, ?_⟩) hH ?_
  rotate_left
  · (intro w hSw; (try dsimp only at hSw); go_simp; (try with_reducible rfl))
  try simp only [Act.put, List.setIfInBounds_toArray, List.set_cons_zero, List.set_cons_succ]
  refine wpAnyH_ready (rs := [1]) (by kernel_rfl) (by simp) ?_
  refine AllReadyH.cons (o := { dst := some 42, op := Op.call { callee := Callee.value (Operand.func 27), args := #[Operand.tmp 41], argTypes := #[52] }, type := _, pos := _, after := _, guard := none }) rfl (fun K hK => ?_) AllReadyH.nil
  go_simp
  (with_reducible refine (R1.out _).mono ?_); rintro e v7_1 ⟨rfl, g⟩
  replace qa := (qa.kep (kep_drew (Kep.refl _ _))).kep g
  replace qb := (qb.kep (kep_drew (Kep.refl _ _))).kep g
  refine hK.out _ _ (by (try dsimp only); (go_split_ands; exact ⟨Kep.all g (by assumption), Kep.all g (by assumption), Kep.all g (by assumption), Kep.all g (by assumption), Kep.all g (by assumption), Kep.all g (by assumption), Kep.all g (by assumption), Kep.all g (by assumption), Kep.all g (by assumption), Kep.all g (by assumption), Kep.all g (by assumption), Kep.all g (by assumption), Kep.all g (by assumption), Kep.all g (by assumption), Kep.all g (by assumption), Kep.all g (by assumption), Kep.all g (by assumption), Kep.all g (by assumption), Kep.all g (by assumption), Kep.all g (by assumption), kep_next (by assumption) g⟩)) (fun hH2 => ?_)
  clear hK K hH; have hH := hH2; clear hH2
  try simp only [Act.put, List.setIfInBounds_toArray, List.set_cons_zero, List.set_cons_succ]
  refine wpAnyH_ready (rs := [3]) (by kernel_rfl) (by simp) ?_
  refine AllReadyH.cons (o := { dst := some 44, op := Op.call { callee := Callee.value (Operand.func 27), args := #[Operand.tmp 43], argTypes := #[52] }, type := _, pos := _, after := _, guard := none }) rfl (fun K hK => ?_) AllReadyH.nil
  go_simp
  (with_reducible refine (R2.out _).mono ?_); rintro e v7_3 ⟨rfl, g⟩
  replace qa := qa.kep g
  replace qb := qb.kep g
  refine hK.out _ _ (by (try dsimp only); (go_split_ands; exact ⟨Kep.all g (by assumption), Kep.all g (by assumption), Kep.all g (by assumption), Kep.all g (by assumption), Kep.all g (by assumption), Kep.all g (by assumption), Kep.all g (by assumption), Kep.all g (by assumption), Kep.all g (by assumption), Kep.all g (by assumption), Kep.all g (by assumption), Kep.all g (by assumption), Kep.all g (by assumption), Kep.all g (by assumption), Kep.all g (by assumption), Kep.all g (by assumption), Kep.all g (by assumption), Kep.all g (by assumption), Kep.all g (by assumption), Kep.all g (by assumption), kep_next (by assumption) g⟩)) (fun hH2 => ?_)
  clear hK K hH; have hH := hH2; clear hH2
  try simp only [Act.put, List.setIfInBounds_toArray, List.set_cons_zero, List.set_cons_succ]
  refine wpAnyH_ready (rs := [4]) (by kernel_rfl) (by simp) ?_
  refine AllReadyH.cons (o := { dst := some 45, op := Op.call { callee := Callee.value (Operand.func 26), args := #[Operand.tmp 42, Operand.tmp 44], argTypes := #[25, 25] }, type := _, pos := _, after := _, guard := none }) rfl (fun K hK => ?_) AllReadyH.nil
  go_simp
  (with_reducible refine (V1.out _).mono ?_); rintro e v7_4 ⟨rfl, g⟩
  replace qa := qa.kep g
  replace qb := qb.kep g
  refine hK.out _ _ (by (try dsimp only); (go_split_ands; exact ⟨Kep.all g (by assumption), Kep.all g (by assumption), Kep.all g (by assumption), Kep.all g (by assumption), Kep.all g (by assumption), Kep.all g (by assumption), Kep.all g (by assumption), Kep.all g (by assumption), Kep.all g (by assumption), Kep.all g (by assumption), Kep.all g (by assumption), Kep.all g (by assumption), Kep.all g (by assumption), Kep.all g (by assumption), Kep.all g (by assumption), Kep.all g (by assumption), Kep.all g (by assumption), Kep.all g (by assumption), Kep.all g (by assumption), Kep.all g (by assumption), kep_next (by assumption) g⟩)) (fun hH2 => ?_)
  clear hK K hH; have hH := hH2; clear hH2
  try simp only [Act.put, List.setIfInBounds_toArray, List.set_cons_zero, List.set_cons_succ]
  refine wpAnyH_take (i := 5) (oi := { dst := some 46, op := Op.unOp UnOp.not 4 (Operand.tmp 45), type := _, pos := _, after := _, guard := none }) (v := ?_) rfl (by kernel_rfl) (by kernel_rfl) (by kernel_rfl) (fun _ _ _ h => h) (Or.inl ⟨by rfl, ?_⟩) hH ?_
  rotate_left
  · (intro w hSw; (try dsimp only at hSw); go_simp; (try with_reducible rfl))
  try simp only [Act.put, List.setIfInBounds_toArray, List.set_cons_zero, List.set_cons_succ]
  refine wpAnyH_done (by kernel_rfl) ?_ _
  refine NoPanic.normal ?_
  clear c0 c1 c2 c3 c4 c5 c6 c7 c8 c9 d0 d1 d2 d3 d4 d5 d6 d7 d8 d9 gg
  obtain ⟨c0, c1, c2, c3, c4, c5, c6, c7, c8, c9, d0, d1, d2, d3, d4, d5, d6, d7, d8, d9, gg⟩ := hH
  go_wp2_with fail
  go_ret
  exact ⟨rfl, gg⟩
set_option maxRecDepth 100000 in
set_option maxHeartbeats 8000000 in
theorem cdl_yes (k r ax ay m o px py vx vy k2 r2 ax2 ay2 m2 o2 px2 py2 vx2 vy2 p0 q0 u0 v0 p1 q1 u1 v1 : Int) (L1 L2 : List (Int × Int)) (hL1 : L1.length ≤ 25) (hL0 : 0 < L1.length) (hL2 : L2.length ≤ 25) (AW : Hid CAwake) (K0 : Hid (KCk k r ax ay m o px py vx vy 0)) (K1 : Hid (KCk k2 r2 ax2 ay2 m2 o2 px2 py2 vx2 vy2 0)) (B1 : Hid (CxO k r ax ay m o px py vx vy p0 q0 u0 v0)) (B2 : Hid (CxO k2 r2 ax2 ay2 m2 o2 px2 py2 vx2 vy2 p1 q1 u1 v1)) (A1 : Hid (CeA p0 q0 u0 v0 L1)) (A2 : Hid (CeA p1 q1 u1 v1 L2)) (R1 : Hid (KOf k r ax ay m o px py vx vy p0 q0 u0 v0)) (R2 : Hid (KOf k2 r2 ax2 ay2 m2 o2 px2 py2 vx2 vy2 p1 q1 u1 v1)) (V1 : Hid (KOv p0 q0 u0 v0 p1 q1 u1 v1 true)) (HX : Hid (∃ c, c ∈ L1 ∧ c ∈ L2)) (w : World) (F0 : Fac w) :
    Calls Tryd.prog 6 #[.agg #[.int .u32 k, .int .i32 r, .int .i32 ax, .int .i32 ay, .int .i32 m, .int .i32 o, .int .i32 px, .int .i32 py, .int .i32 vx, .int .i32 vy], .agg #[.int .u32 k2, .int .i32 r2, .int .i32 ax2, .int .i32 ay2, .int .i32 m2, .int .i32 o2, .int .i32 px2, .int .i32 py2, .int .i32 vx2, .int .i32 vy2]] w fun e w' => e = .returned (.bool true) ∧ Kep w.heap.size w w' := by
  have l1 : decide ((25 : Int) < (L1.length : Int)) = false := decide_eq_false (by omega)
  have l2 : decide ((25 : Int) < (L2.length : Int)) = false := decide_eq_false (by omega)
  have l3 : ((L1.length : Int) == 0) = false := beq_eq_false_iff_ne.2 (by omega)
  go_enter Tryd.func6, Tryd.ntmps6
  go_wp2_with (first
    | ((with_reducible refine (AW.out _ (F0.kep (by (repeat (first | with_reducible assumption | refine kep_more ?_ _ | refine kep_drew ?_ | exact Kep.refl _ _))))).mono ?_); rintro e w1 ⟨rfl, g1⟩
       have c0 := Kep.all g1 (a := ⟨w.heap.size, 0, none⟩) (v := .int .u32 k) (by (repeat (first | rw [World.cell?_drew] | rw [World.cell?_alloc_past _ _ _ (by first | (simp; done) | (simp; omega))])); rw [World.cell?_alloc_at _ _ _ _ (by simp)]; rfl)
       have c1 := Kep.all g1 (a := ⟨w.heap.size, 1, none⟩) (v := .int .i32 r) (by (repeat (first | rw [World.cell?_drew] | rw [World.cell?_alloc_past _ _ _ (by first | (simp; done) | (simp; omega))])); rw [World.cell?_alloc_at _ _ _ _ (by simp)]; rfl)
       have c2 := Kep.all g1 (a := ⟨w.heap.size, 2, none⟩) (v := .int .i32 ax) (by (repeat (first | rw [World.cell?_drew] | rw [World.cell?_alloc_past _ _ _ (by first | (simp; done) | (simp; omega))])); rw [World.cell?_alloc_at _ _ _ _ (by simp)]; rfl)
       have c3 := Kep.all g1 (a := ⟨w.heap.size, 3, none⟩) (v := .int .i32 ay) (by (repeat (first | rw [World.cell?_drew] | rw [World.cell?_alloc_past _ _ _ (by first | (simp; done) | (simp; omega))])); rw [World.cell?_alloc_at _ _ _ _ (by simp)]; rfl)
       have c4 := Kep.all g1 (a := ⟨w.heap.size, 4, none⟩) (v := .int .i32 m) (by (repeat (first | rw [World.cell?_drew] | rw [World.cell?_alloc_past _ _ _ (by first | (simp; done) | (simp; omega))])); rw [World.cell?_alloc_at _ _ _ _ (by simp)]; rfl)
       have c5 := Kep.all g1 (a := ⟨w.heap.size, 5, none⟩) (v := .int .i32 o) (by (repeat (first | rw [World.cell?_drew] | rw [World.cell?_alloc_past _ _ _ (by first | (simp; done) | (simp; omega))])); rw [World.cell?_alloc_at _ _ _ _ (by simp)]; rfl)
       have c6 := Kep.all g1 (a := ⟨w.heap.size, 6, none⟩) (v := .int .i32 px) (by (repeat (first | rw [World.cell?_drew] | rw [World.cell?_alloc_past _ _ _ (by first | (simp; done) | (simp; omega))])); rw [World.cell?_alloc_at _ _ _ _ (by simp)]; rfl)
       have c7 := Kep.all g1 (a := ⟨w.heap.size, 7, none⟩) (v := .int .i32 py) (by (repeat (first | rw [World.cell?_drew] | rw [World.cell?_alloc_past _ _ _ (by first | (simp; done) | (simp; omega))])); rw [World.cell?_alloc_at _ _ _ _ (by simp)]; rfl)
       have c8 := Kep.all g1 (a := ⟨w.heap.size, 8, none⟩) (v := .int .i32 vx) (by (repeat (first | rw [World.cell?_drew] | rw [World.cell?_alloc_past _ _ _ (by first | (simp; done) | (simp; omega))])); rw [World.cell?_alloc_at _ _ _ _ (by simp)]; rfl)
       have c9 := Kep.all g1 (a := ⟨w.heap.size, 9, none⟩) (v := .int .i32 vy) (by (repeat (first | rw [World.cell?_drew] | rw [World.cell?_alloc_past _ _ _ (by first | (simp; done) | (simp; omega))])); rw [World.cell?_alloc_at _ _ _ _ (by simp)]; rfl)
       have d0 := Kep.all g1 (a := ⟨w.heap.size + 1, 0, none⟩) (v := .int .u32 k2) (by (repeat (first | rw [World.cell?_drew] | rw [World.cell?_alloc_past _ _ _ (by first | (simp; done) | (simp; omega))])); rw [World.cell?_alloc_at _ _ _ _ (by simp)]; rfl)
       have d1 := Kep.all g1 (a := ⟨w.heap.size + 1, 1, none⟩) (v := .int .i32 r2) (by (repeat (first | rw [World.cell?_drew] | rw [World.cell?_alloc_past _ _ _ (by first | (simp; done) | (simp; omega))])); rw [World.cell?_alloc_at _ _ _ _ (by simp)]; rfl)
       have d2 := Kep.all g1 (a := ⟨w.heap.size + 1, 2, none⟩) (v := .int .i32 ax2) (by (repeat (first | rw [World.cell?_drew] | rw [World.cell?_alloc_past _ _ _ (by first | (simp; done) | (simp; omega))])); rw [World.cell?_alloc_at _ _ _ _ (by simp)]; rfl)
       have d3 := Kep.all g1 (a := ⟨w.heap.size + 1, 3, none⟩) (v := .int .i32 ay2) (by (repeat (first | rw [World.cell?_drew] | rw [World.cell?_alloc_past _ _ _ (by first | (simp; done) | (simp; omega))])); rw [World.cell?_alloc_at _ _ _ _ (by simp)]; rfl)
       have d4 := Kep.all g1 (a := ⟨w.heap.size + 1, 4, none⟩) (v := .int .i32 m2) (by (repeat (first | rw [World.cell?_drew] | rw [World.cell?_alloc_past _ _ _ (by first | (simp; done) | (simp; omega))])); rw [World.cell?_alloc_at _ _ _ _ (by simp)]; rfl)
       have d5 := Kep.all g1 (a := ⟨w.heap.size + 1, 5, none⟩) (v := .int .i32 o2) (by (repeat (first | rw [World.cell?_drew] | rw [World.cell?_alloc_past _ _ _ (by first | (simp; done) | (simp; omega))])); rw [World.cell?_alloc_at _ _ _ _ (by simp)]; rfl)
       have d6 := Kep.all g1 (a := ⟨w.heap.size + 1, 6, none⟩) (v := .int .i32 px2) (by (repeat (first | rw [World.cell?_drew] | rw [World.cell?_alloc_past _ _ _ (by first | (simp; done) | (simp; omega))])); rw [World.cell?_alloc_at _ _ _ _ (by simp)]; rfl)
       have d7 := Kep.all g1 (a := ⟨w.heap.size + 1, 7, none⟩) (v := .int .i32 py2) (by (repeat (first | rw [World.cell?_drew] | rw [World.cell?_alloc_past _ _ _ (by first | (simp; done) | (simp; omega))])); rw [World.cell?_alloc_at _ _ _ _ (by simp)]; rfl)
       have d8 := Kep.all g1 (a := ⟨w.heap.size + 1, 8, none⟩) (v := .int .i32 vx2) (by (repeat (first | rw [World.cell?_drew] | rw [World.cell?_alloc_past _ _ _ (by first | (simp; done) | (simp; omega))])); rw [World.cell?_alloc_at _ _ _ _ (by simp)]; rfl)
       have d9 := Kep.all g1 (a := ⟨w.heap.size + 1, 9, none⟩) (v := .int .i32 vy2) (by (repeat (first | rw [World.cell?_drew] | rw [World.cell?_alloc_past _ _ _ (by first | (simp; done) | (simp; omega))])); rw [World.cell?_alloc_at _ _ _ _ (by simp)]; rfl)
       have gg := kep_next (kep_more (kep_more (Kep.refl _ _) _) _) g1
       have zc_w1 : w.heap.size < w1.heap.size := World.block_lt_of_cell? _ _ c0
       have zd_w1 : w.heap.size + 1 < w1.heap.size := World.block_lt_of_cell? _ _ d0)
    | ((with_reducible refine (K0.out _).mono ?_); rintro e w2 ⟨rfl, g2⟩
       replace c0 := Kep.all g2 (a := ⟨w.heap.size, 0, none⟩) (v := .int .u32 k) c0
       replace c1 := Kep.all g2 (a := ⟨w.heap.size, 1, none⟩) (v := .int .i32 r) c1
       replace c2 := Kep.all g2 (a := ⟨w.heap.size, 2, none⟩) (v := .int .i32 ax) c2
       replace c3 := Kep.all g2 (a := ⟨w.heap.size, 3, none⟩) (v := .int .i32 ay) c3
       replace c4 := Kep.all g2 (a := ⟨w.heap.size, 4, none⟩) (v := .int .i32 m) c4
       replace c5 := Kep.all g2 (a := ⟨w.heap.size, 5, none⟩) (v := .int .i32 o) c5
       replace c6 := Kep.all g2 (a := ⟨w.heap.size, 6, none⟩) (v := .int .i32 px) c6
       replace c7 := Kep.all g2 (a := ⟨w.heap.size, 7, none⟩) (v := .int .i32 py) c7
       replace c8 := Kep.all g2 (a := ⟨w.heap.size, 8, none⟩) (v := .int .i32 vx) c8
       replace c9 := Kep.all g2 (a := ⟨w.heap.size, 9, none⟩) (v := .int .i32 vy) c9
       replace d0 := Kep.all g2 (a := ⟨w.heap.size + 1, 0, none⟩) (v := .int .u32 k2) d0
       replace d1 := Kep.all g2 (a := ⟨w.heap.size + 1, 1, none⟩) (v := .int .i32 r2) d1
       replace d2 := Kep.all g2 (a := ⟨w.heap.size + 1, 2, none⟩) (v := .int .i32 ax2) d2
       replace d3 := Kep.all g2 (a := ⟨w.heap.size + 1, 3, none⟩) (v := .int .i32 ay2) d3
       replace d4 := Kep.all g2 (a := ⟨w.heap.size + 1, 4, none⟩) (v := .int .i32 m2) d4
       replace d5 := Kep.all g2 (a := ⟨w.heap.size + 1, 5, none⟩) (v := .int .i32 o2) d5
       replace d6 := Kep.all g2 (a := ⟨w.heap.size + 1, 6, none⟩) (v := .int .i32 px2) d6
       replace d7 := Kep.all g2 (a := ⟨w.heap.size + 1, 7, none⟩) (v := .int .i32 py2) d7
       replace d8 := Kep.all g2 (a := ⟨w.heap.size + 1, 8, none⟩) (v := .int .i32 vx2) d8
       replace d9 := Kep.all g2 (a := ⟨w.heap.size + 1, 9, none⟩) (v := .int .i32 vy2) d9
       replace gg := kep_next gg g2
       have zc_w2 : w.heap.size < w2.heap.size := World.block_lt_of_cell? _ _ c0
       have zd_w2 : w.heap.size + 1 < w2.heap.size := World.block_lt_of_cell? _ _ d0)
    | ((with_reducible refine (K1.out _).mono ?_); rintro e w3 ⟨rfl, g3⟩
       replace c0 := Kep.all g3 (a := ⟨w.heap.size, 0, none⟩) (v := .int .u32 k) c0
       replace c1 := Kep.all g3 (a := ⟨w.heap.size, 1, none⟩) (v := .int .i32 r) c1
       replace c2 := Kep.all g3 (a := ⟨w.heap.size, 2, none⟩) (v := .int .i32 ax) c2
       replace c3 := Kep.all g3 (a := ⟨w.heap.size, 3, none⟩) (v := .int .i32 ay) c3
       replace c4 := Kep.all g3 (a := ⟨w.heap.size, 4, none⟩) (v := .int .i32 m) c4
       replace c5 := Kep.all g3 (a := ⟨w.heap.size, 5, none⟩) (v := .int .i32 o) c5
       replace c6 := Kep.all g3 (a := ⟨w.heap.size, 6, none⟩) (v := .int .i32 px) c6
       replace c7 := Kep.all g3 (a := ⟨w.heap.size, 7, none⟩) (v := .int .i32 py) c7
       replace c8 := Kep.all g3 (a := ⟨w.heap.size, 8, none⟩) (v := .int .i32 vx) c8
       replace c9 := Kep.all g3 (a := ⟨w.heap.size, 9, none⟩) (v := .int .i32 vy) c9
       replace d0 := Kep.all g3 (a := ⟨w.heap.size + 1, 0, none⟩) (v := .int .u32 k2) d0
       replace d1 := Kep.all g3 (a := ⟨w.heap.size + 1, 1, none⟩) (v := .int .i32 r2) d1
       replace d2 := Kep.all g3 (a := ⟨w.heap.size + 1, 2, none⟩) (v := .int .i32 ax2) d2
       replace d3 := Kep.all g3 (a := ⟨w.heap.size + 1, 3, none⟩) (v := .int .i32 ay2) d3
       replace d4 := Kep.all g3 (a := ⟨w.heap.size + 1, 4, none⟩) (v := .int .i32 m2) d4
       replace d5 := Kep.all g3 (a := ⟨w.heap.size + 1, 5, none⟩) (v := .int .i32 o2) d5
       replace d6 := Kep.all g3 (a := ⟨w.heap.size + 1, 6, none⟩) (v := .int .i32 px2) d6
       replace d7 := Kep.all g3 (a := ⟨w.heap.size + 1, 7, none⟩) (v := .int .i32 py2) d7
       replace d8 := Kep.all g3 (a := ⟨w.heap.size + 1, 8, none⟩) (v := .int .i32 vx2) d8
       replace d9 := Kep.all g3 (a := ⟨w.heap.size + 1, 9, none⟩) (v := .int .i32 vy2) d9
       replace gg := kep_next gg g3
       have zc_w3 : w.heap.size < w3.heap.size := World.block_lt_of_cell? _ _ c0
       have zd_w3 : w.heap.size + 1 < w3.heap.size := World.block_lt_of_cell? _ _ d0)
    | ((with_reducible refine (B1.out _).mono ?_); rintro e w4 ⟨rfl, g4⟩
       replace c0 := Kep.all g4 (a := ⟨w.heap.size, 0, none⟩) (v := .int .u32 k) c0
       replace c1 := Kep.all g4 (a := ⟨w.heap.size, 1, none⟩) (v := .int .i32 r) c1
       replace c2 := Kep.all g4 (a := ⟨w.heap.size, 2, none⟩) (v := .int .i32 ax) c2
       replace c3 := Kep.all g4 (a := ⟨w.heap.size, 3, none⟩) (v := .int .i32 ay) c3
       replace c4 := Kep.all g4 (a := ⟨w.heap.size, 4, none⟩) (v := .int .i32 m) c4
       replace c5 := Kep.all g4 (a := ⟨w.heap.size, 5, none⟩) (v := .int .i32 o) c5
       replace c6 := Kep.all g4 (a := ⟨w.heap.size, 6, none⟩) (v := .int .i32 px) c6
       replace c7 := Kep.all g4 (a := ⟨w.heap.size, 7, none⟩) (v := .int .i32 py) c7
       replace c8 := Kep.all g4 (a := ⟨w.heap.size, 8, none⟩) (v := .int .i32 vx) c8
       replace c9 := Kep.all g4 (a := ⟨w.heap.size, 9, none⟩) (v := .int .i32 vy) c9
       replace d0 := Kep.all g4 (a := ⟨w.heap.size + 1, 0, none⟩) (v := .int .u32 k2) d0
       replace d1 := Kep.all g4 (a := ⟨w.heap.size + 1, 1, none⟩) (v := .int .i32 r2) d1
       replace d2 := Kep.all g4 (a := ⟨w.heap.size + 1, 2, none⟩) (v := .int .i32 ax2) d2
       replace d3 := Kep.all g4 (a := ⟨w.heap.size + 1, 3, none⟩) (v := .int .i32 ay2) d3
       replace d4 := Kep.all g4 (a := ⟨w.heap.size + 1, 4, none⟩) (v := .int .i32 m2) d4
       replace d5 := Kep.all g4 (a := ⟨w.heap.size + 1, 5, none⟩) (v := .int .i32 o2) d5
       replace d6 := Kep.all g4 (a := ⟨w.heap.size + 1, 6, none⟩) (v := .int .i32 px2) d6
       replace d7 := Kep.all g4 (a := ⟨w.heap.size + 1, 7, none⟩) (v := .int .i32 py2) d7
       replace d8 := Kep.all g4 (a := ⟨w.heap.size + 1, 8, none⟩) (v := .int .i32 vx2) d8
       replace d9 := Kep.all g4 (a := ⟨w.heap.size + 1, 9, none⟩) (v := .int .i32 vy2) d9
       replace gg := kep_next gg g4
       have zc_w4 : w.heap.size < w4.heap.size := World.block_lt_of_cell? _ _ c0
       have zd_w4 : w.heap.size + 1 < w4.heap.size := World.block_lt_of_cell? _ _ d0)
    | ((with_reducible refine (A1.out _).mono ?_); rintro e w5 ⟨ls, rfl, qa, g5⟩
       obtain ⟨base, cap, rfl⟩ := qa.shape
       replace c0 := Kep.all g5 (a := ⟨w.heap.size, 0, none⟩) (v := .int .u32 k) c0
       replace c1 := Kep.all g5 (a := ⟨w.heap.size, 1, none⟩) (v := .int .i32 r) c1
       replace c2 := Kep.all g5 (a := ⟨w.heap.size, 2, none⟩) (v := .int .i32 ax) c2
       replace c3 := Kep.all g5 (a := ⟨w.heap.size, 3, none⟩) (v := .int .i32 ay) c3
       replace c4 := Kep.all g5 (a := ⟨w.heap.size, 4, none⟩) (v := .int .i32 m) c4
       replace c5 := Kep.all g5 (a := ⟨w.heap.size, 5, none⟩) (v := .int .i32 o) c5
       replace c6 := Kep.all g5 (a := ⟨w.heap.size, 6, none⟩) (v := .int .i32 px) c6
       replace c7 := Kep.all g5 (a := ⟨w.heap.size, 7, none⟩) (v := .int .i32 py) c7
       replace c8 := Kep.all g5 (a := ⟨w.heap.size, 8, none⟩) (v := .int .i32 vx) c8
       replace c9 := Kep.all g5 (a := ⟨w.heap.size, 9, none⟩) (v := .int .i32 vy) c9
       replace d0 := Kep.all g5 (a := ⟨w.heap.size + 1, 0, none⟩) (v := .int .u32 k2) d0
       replace d1 := Kep.all g5 (a := ⟨w.heap.size + 1, 1, none⟩) (v := .int .i32 r2) d1
       replace d2 := Kep.all g5 (a := ⟨w.heap.size + 1, 2, none⟩) (v := .int .i32 ax2) d2
       replace d3 := Kep.all g5 (a := ⟨w.heap.size + 1, 3, none⟩) (v := .int .i32 ay2) d3
       replace d4 := Kep.all g5 (a := ⟨w.heap.size + 1, 4, none⟩) (v := .int .i32 m2) d4
       replace d5 := Kep.all g5 (a := ⟨w.heap.size + 1, 5, none⟩) (v := .int .i32 o2) d5
       replace d6 := Kep.all g5 (a := ⟨w.heap.size + 1, 6, none⟩) (v := .int .i32 px2) d6
       replace d7 := Kep.all g5 (a := ⟨w.heap.size + 1, 7, none⟩) (v := .int .i32 py2) d7
       replace d8 := Kep.all g5 (a := ⟨w.heap.size + 1, 8, none⟩) (v := .int .i32 vx2) d8
       replace d9 := Kep.all g5 (a := ⟨w.heap.size + 1, 9, none⟩) (v := .int .i32 vy2) d9
       replace gg := kep_next gg g5
       have zc_w5 : w.heap.size < w5.heap.size := World.block_lt_of_cell? _ _ c0
       have zd_w5 : w.heap.size + 1 < w5.heap.size := World.block_lt_of_cell? _ _ d0)
    | ((with_reducible refine (B2.out _).mono ?_); rintro e w6 ⟨rfl, g6⟩
       replace qa := qa.kep g6
       replace c0 := Kep.all g6 (a := ⟨w.heap.size, 0, none⟩) (v := .int .u32 k) c0
       replace c1 := Kep.all g6 (a := ⟨w.heap.size, 1, none⟩) (v := .int .i32 r) c1
       replace c2 := Kep.all g6 (a := ⟨w.heap.size, 2, none⟩) (v := .int .i32 ax) c2
       replace c3 := Kep.all g6 (a := ⟨w.heap.size, 3, none⟩) (v := .int .i32 ay) c3
       replace c4 := Kep.all g6 (a := ⟨w.heap.size, 4, none⟩) (v := .int .i32 m) c4
       replace c5 := Kep.all g6 (a := ⟨w.heap.size, 5, none⟩) (v := .int .i32 o) c5
       replace c6 := Kep.all g6 (a := ⟨w.heap.size, 6, none⟩) (v := .int .i32 px) c6
       replace c7 := Kep.all g6 (a := ⟨w.heap.size, 7, none⟩) (v := .int .i32 py) c7
       replace c8 := Kep.all g6 (a := ⟨w.heap.size, 8, none⟩) (v := .int .i32 vx) c8
       replace c9 := Kep.all g6 (a := ⟨w.heap.size, 9, none⟩) (v := .int .i32 vy) c9
       replace d0 := Kep.all g6 (a := ⟨w.heap.size + 1, 0, none⟩) (v := .int .u32 k2) d0
       replace d1 := Kep.all g6 (a := ⟨w.heap.size + 1, 1, none⟩) (v := .int .i32 r2) d1
       replace d2 := Kep.all g6 (a := ⟨w.heap.size + 1, 2, none⟩) (v := .int .i32 ax2) d2
       replace d3 := Kep.all g6 (a := ⟨w.heap.size + 1, 3, none⟩) (v := .int .i32 ay2) d3
       replace d4 := Kep.all g6 (a := ⟨w.heap.size + 1, 4, none⟩) (v := .int .i32 m2) d4
       replace d5 := Kep.all g6 (a := ⟨w.heap.size + 1, 5, none⟩) (v := .int .i32 o2) d5
       replace d6 := Kep.all g6 (a := ⟨w.heap.size + 1, 6, none⟩) (v := .int .i32 px2) d6
       replace d7 := Kep.all g6 (a := ⟨w.heap.size + 1, 7, none⟩) (v := .int .i32 py2) d7
       replace d8 := Kep.all g6 (a := ⟨w.heap.size + 1, 8, none⟩) (v := .int .i32 vx2) d8
       replace d9 := Kep.all g6 (a := ⟨w.heap.size + 1, 9, none⟩) (v := .int .i32 vy2) d9
       replace gg := kep_next gg g6
       have zc_w6 : w.heap.size < w6.heap.size := World.block_lt_of_cell? _ _ c0
       have zd_w6 : w.heap.size + 1 < w6.heap.size := World.block_lt_of_cell? _ _ d0)
    | ((with_reducible refine (A2.out _).mono ?_); rintro e w7 ⟨ms, rfl, qb, g7⟩
       obtain ⟨base2, cap2, rfl⟩ := qb.shape
       replace qa := qa.kep g7
       replace c0 := Kep.all g7 (a := ⟨w.heap.size, 0, none⟩) (v := .int .u32 k) c0
       replace c1 := Kep.all g7 (a := ⟨w.heap.size, 1, none⟩) (v := .int .i32 r) c1
       replace c2 := Kep.all g7 (a := ⟨w.heap.size, 2, none⟩) (v := .int .i32 ax) c2
       replace c3 := Kep.all g7 (a := ⟨w.heap.size, 3, none⟩) (v := .int .i32 ay) c3
       replace c4 := Kep.all g7 (a := ⟨w.heap.size, 4, none⟩) (v := .int .i32 m) c4
       replace c5 := Kep.all g7 (a := ⟨w.heap.size, 5, none⟩) (v := .int .i32 o) c5
       replace c6 := Kep.all g7 (a := ⟨w.heap.size, 6, none⟩) (v := .int .i32 px) c6
       replace c7 := Kep.all g7 (a := ⟨w.heap.size, 7, none⟩) (v := .int .i32 py) c7
       replace c8 := Kep.all g7 (a := ⟨w.heap.size, 8, none⟩) (v := .int .i32 vx) c8
       replace c9 := Kep.all g7 (a := ⟨w.heap.size, 9, none⟩) (v := .int .i32 vy) c9
       replace d0 := Kep.all g7 (a := ⟨w.heap.size + 1, 0, none⟩) (v := .int .u32 k2) d0
       replace d1 := Kep.all g7 (a := ⟨w.heap.size + 1, 1, none⟩) (v := .int .i32 r2) d1
       replace d2 := Kep.all g7 (a := ⟨w.heap.size + 1, 2, none⟩) (v := .int .i32 ax2) d2
       replace d3 := Kep.all g7 (a := ⟨w.heap.size + 1, 3, none⟩) (v := .int .i32 ay2) d3
       replace d4 := Kep.all g7 (a := ⟨w.heap.size + 1, 4, none⟩) (v := .int .i32 m2) d4
       replace d5 := Kep.all g7 (a := ⟨w.heap.size + 1, 5, none⟩) (v := .int .i32 o2) d5
       replace d6 := Kep.all g7 (a := ⟨w.heap.size + 1, 6, none⟩) (v := .int .i32 px2) d6
       replace d7 := Kep.all g7 (a := ⟨w.heap.size + 1, 7, none⟩) (v := .int .i32 py2) d7
       replace d8 := Kep.all g7 (a := ⟨w.heap.size + 1, 8, none⟩) (v := .int .i32 vx2) d8
       replace d9 := Kep.all g7 (a := ⟨w.heap.size + 1, 9, none⟩) (v := .int .i32 vy2) d9
       replace gg := kep_next gg g7
       have zc_w7 : w.heap.size < w7.heap.size := World.block_lt_of_cell? _ _ c0
       have zd_w7 : w.heap.size + 1 < w7.heap.size := World.block_lt_of_cell? _ _ d0))
  refine wp_region_noPanic ?_
  refine wp_region_held_drew (S := (fun w' => w'.cell? ⟨w.heap.size, 0, none⟩ = some (.int .u32 k) ∧ w'.cell? ⟨w.heap.size, 1, none⟩ = some (.int .i32 r) ∧ w'.cell? ⟨w.heap.size, 2, none⟩ = some (.int .i32 ax) ∧ w'.cell? ⟨w.heap.size, 3, none⟩ = some (.int .i32 ay) ∧ w'.cell? ⟨w.heap.size, 4, none⟩ = some (.int .i32 m) ∧ w'.cell? ⟨w.heap.size, 5, none⟩ = some (.int .i32 o) ∧ w'.cell? ⟨w.heap.size, 6, none⟩ = some (.int .i32 px) ∧ w'.cell? ⟨w.heap.size, 7, none⟩ = some (.int .i32 py) ∧ w'.cell? ⟨w.heap.size, 8, none⟩ = some (.int .i32 vx) ∧ w'.cell? ⟨w.heap.size, 9, none⟩ = some (.int .i32 vy) ∧ w'.cell? ⟨w.heap.size + 1, 0, none⟩ = some (.int .u32 k2) ∧ w'.cell? ⟨w.heap.size + 1, 1, none⟩ = some (.int .i32 r2) ∧ w'.cell? ⟨w.heap.size + 1, 2, none⟩ = some (.int .i32 ax2) ∧ w'.cell? ⟨w.heap.size + 1, 3, none⟩ = some (.int .i32 ay2) ∧ w'.cell? ⟨w.heap.size + 1, 4, none⟩ = some (.int .i32 m2) ∧ w'.cell? ⟨w.heap.size + 1, 5, none⟩ = some (.int .i32 o2) ∧ w'.cell? ⟨w.heap.size + 1, 6, none⟩ = some (.int .i32 px2) ∧ w'.cell? ⟨w.heap.size + 1, 7, none⟩ = some (.int .i32 py2) ∧ w'.cell? ⟨w.heap.size + 1, 8, none⟩ = some (.int .i32 vx2) ∧ w'.cell? ⟨w.heap.size + 1, 9, none⟩ = some (.int .i32 vy2) ∧ Kep w.heap.size w w')) (by kernel_rfl) (⟨by rw [World.cell?_drew]; exact c0, by rw [World.cell?_drew]; exact c1, by rw [World.cell?_drew]; exact c2, by rw [World.cell?_drew]; exact c3, by rw [World.cell?_drew]; exact c4, by rw [World.cell?_drew]; exact c5, by rw [World.cell?_drew]; exact c6, by rw [World.cell?_drew]; exact c7, by rw [World.cell?_drew]; exact c8, by rw [World.cell?_drew]; exact c9, by rw [World.cell?_drew]; exact d0, by rw [World.cell?_drew]; exact d1, by rw [World.cell?_drew]; exact d2, by rw [World.cell?_drew]; exact d3, by rw [World.cell?_drew]; exact d4, by rw [World.cell?_drew]; exact d5, by rw [World.cell?_drew]; exact d6, by rw [World.cell?_drew]; exact d7, by rw [World.cell?_drew]; exact d8, by rw [World.cell?_drew]; exact d9, kep_drew gg⟩) (fun hH => ?_)
  refine wpAnyH_take (i := 0) (oi := { dst := some 41, op := Op.load 52 (Operand.tmp 2), type := _, pos := _, after := _, guard := none }) (v := ?_) rfl (by kernel_rfl) (by kernel_rfl) (by kernel_rfl) (fun _ _ _ h => h) (Or.inl ⟨by rfl, ?_⟩) hH ?_
  rotate_left
  · (intro w hSw; (try dsimp only at hSw); go_simp; (try with_reducible rfl))
  try simp only [Act.put, List.setIfInBounds_toArray, List.set_cons_zero, List.set_cons_succ]
  refine wpAnyH_take (i := 2) (oi := { dst := some 43, op := Op.load 52 (Operand.tmp 3), type := _, pos := _, after := _, guard := none }) (v := ?_) rfl (by kernel_rfl) (by kernel_rfl) (by kernel_rfl) (fun _ _ _ h => h) (Or.inl ⟨by rfl, ?_⟩) hH ?_
  rotate_left
  · (intro w hSw; (try dsimp only at hSw); go_simp; (try with_reducible rfl))
  try simp only [Act.put, List.setIfInBounds_toArray, List.set_cons_zero, List.set_cons_succ]
  refine wpAnyH_ready (rs := [1]) (by kernel_rfl) (by simp) ?_
  refine AllReadyH.cons (o := { dst := some 42, op := Op.call { callee := Callee.value (Operand.func 27), args := #[Operand.tmp 41], argTypes := #[52] }, type := _, pos := _, after := _, guard := none }) rfl (fun K hK => ?_) AllReadyH.nil
  go_simp
  (with_reducible refine (R1.out _).mono ?_); rintro e v7_1 ⟨rfl, g⟩
  replace qa := (qa.kep (kep_drew (Kep.refl _ _))).kep g
  replace qb := (qb.kep (kep_drew (Kep.refl _ _))).kep g
  refine hK.out _ _ (by (try dsimp only); (go_split_ands; exact ⟨Kep.all g (by assumption), Kep.all g (by assumption), Kep.all g (by assumption), Kep.all g (by assumption), Kep.all g (by assumption), Kep.all g (by assumption), Kep.all g (by assumption), Kep.all g (by assumption), Kep.all g (by assumption), Kep.all g (by assumption), Kep.all g (by assumption), Kep.all g (by assumption), Kep.all g (by assumption), Kep.all g (by assumption), Kep.all g (by assumption), Kep.all g (by assumption), Kep.all g (by assumption), Kep.all g (by assumption), Kep.all g (by assumption), Kep.all g (by assumption), kep_next (by assumption) g⟩)) (fun hH2 => ?_)
  clear hK K hH; have hH := hH2; clear hH2
  try simp only [Act.put, List.setIfInBounds_toArray, List.set_cons_zero, List.set_cons_succ]
  refine wpAnyH_ready (rs := [3]) (by kernel_rfl) (by simp) ?_
  refine AllReadyH.cons (o := { dst := some 44, op := Op.call { callee := Callee.value (Operand.func 27), args := #[Operand.tmp 43], argTypes := #[52] }, type := _, pos := _, after := _, guard := none }) rfl (fun K hK => ?_) AllReadyH.nil
  go_simp
  (with_reducible refine (R2.out _).mono ?_); rintro e v7_3 ⟨rfl, g⟩
  replace qa := qa.kep g
  replace qb := qb.kep g
  refine hK.out _ _ (by (try dsimp only); (go_split_ands; exact ⟨Kep.all g (by assumption), Kep.all g (by assumption), Kep.all g (by assumption), Kep.all g (by assumption), Kep.all g (by assumption), Kep.all g (by assumption), Kep.all g (by assumption), Kep.all g (by assumption), Kep.all g (by assumption), Kep.all g (by assumption), Kep.all g (by assumption), Kep.all g (by assumption), Kep.all g (by assumption), Kep.all g (by assumption), Kep.all g (by assumption), Kep.all g (by assumption), Kep.all g (by assumption), Kep.all g (by assumption), Kep.all g (by assumption), Kep.all g (by assumption), kep_next (by assumption) g⟩)) (fun hH2 => ?_)
  clear hK K hH; have hH := hH2; clear hH2
  try simp only [Act.put, List.setIfInBounds_toArray, List.set_cons_zero, List.set_cons_succ]
  refine wpAnyH_ready (rs := [4]) (by kernel_rfl) (by simp) ?_
  refine AllReadyH.cons (o := { dst := some 45, op := Op.call { callee := Callee.value (Operand.func 26), args := #[Operand.tmp 42, Operand.tmp 44], argTypes := #[25, 25] }, type := _, pos := _, after := _, guard := none }) rfl (fun K hK => ?_) AllReadyH.nil
  go_simp
  (with_reducible refine (V1.out _).mono ?_); rintro e v7_4 ⟨rfl, g⟩
  replace qa := qa.kep g
  replace qb := qb.kep g
  refine hK.out _ _ (by (try dsimp only); (go_split_ands; exact ⟨Kep.all g (by assumption), Kep.all g (by assumption), Kep.all g (by assumption), Kep.all g (by assumption), Kep.all g (by assumption), Kep.all g (by assumption), Kep.all g (by assumption), Kep.all g (by assumption), Kep.all g (by assumption), Kep.all g (by assumption), Kep.all g (by assumption), Kep.all g (by assumption), Kep.all g (by assumption), Kep.all g (by assumption), Kep.all g (by assumption), Kep.all g (by assumption), Kep.all g (by assumption), Kep.all g (by assumption), Kep.all g (by assumption), Kep.all g (by assumption), kep_next (by assumption) g⟩)) (fun hH2 => ?_)
  clear hK K hH; have hH := hH2; clear hH2
  try simp only [Act.put, List.setIfInBounds_toArray, List.set_cons_zero, List.set_cons_succ]
  refine wpAnyH_take (i := 5) (oi := { dst := some 46, op := Op.unOp UnOp.not 4 (Operand.tmp 45), type := _, pos := _, after := _, guard := none }) (v := ?_) rfl (by kernel_rfl) (by kernel_rfl) (by kernel_rfl) (fun _ _ _ h => h) (Or.inl ⟨by rfl, ?_⟩) hH ?_
  rotate_left
  · (intro w hSw; (try dsimp only at hSw); go_simp; (try with_reducible rfl))
  try simp only [Act.put, List.setIfInBounds_toArray, List.set_cons_zero, List.set_cons_succ]
  refine wpAnyH_done (by kernel_rfl) ?_ _
  refine NoPanic.normal ?_
  clear c0 c1 c2 c3 c4 c5 c6 c7 c8 c9 d0 d1 d2 d3 d4 d5 d6 d7 d8 d9 gg
  obtain ⟨c0, c1, c2, c3, c4, c5, c6, c7, c8, c9, d0, d1, d2, d3, d4, d5, d6, d7, d8, d9, gg⟩ := hH
  obtain ⟨_, _, qe, ha⟩ := qa
  injection qe with q1 q2 q3
  subst q1 q3
  clear q2
  have HA := Lib.hid ha
  clear ha
  obtain ⟨_, _, qe, hb⟩ := qb
  injection qe with q1 q2 q3
  subst q1 q3
  clear q2
  have HB := Lib.hid hb
  clear hb
  clear c0 c1 c2 c3 c4 c5 c6 c7 c8 c9 d0 d1 d2 d3 d4 d5 d6 d7 d8 d9
  go_wp2_with fail
  go_loopw [7, 8] (fun i _ wr => ∃ ka : Nat, ka ≤ L1.length ∧ i = .int .i64 ka ∧ Hid (∀ (j : Nat) (c : Int × Int), j < ka → L1[j]? = some c → c ∉ L2) ∧ ∃ j, wr = v7_4.drewN j) (fun i _ _ => L1.length - (RowKit.intOf i).toNat)
  case atStart => exact ⟨0, by omega, rfl, Lib.hid (fun j c h _ => by omega), 0, rfl⟩
  case round =>
    obtain ⟨ka, hka, rfl, HN, j, rfl⟩ := hrel
    by_cases hlt : ka < L1.length
    · have hc : L1[ka]? = some (L1[ka]'hlt) := List.getElem?_eq_getElem _
      generalize L1[ka]'hlt = c at hc
      obtain ⟨ga, oa, rfl, hq⟩ := HA.out ka c hc
      obtain ⟨tx, ty⟩ := c
      have t0 : v7_4.cell? ⟨ga, oa + ka * 2, none⟩ = some (.int .i32 tx) := hq 0 _ rfl
      have t1 : v7_4.cell? ⟨ga, oa + ka * 2 + 1, none⟩ = some (.int .i32 ty) := hq 1 _ rfl
      have HC := Lib.hid hc
      clear hc hq
      go_wp2_with fail
      go_loopw [8] (fun i wr => ∃ kb : Nat, kb ≤ L2.length ∧ i = .int .i64 kb ∧ Hid (∀ (j : Nat) (c : Int × Int), j < kb → L2[j]? = some c → c ≠ (tx, ty)) ∧ ∃ j, wr = v7_4.drewN j) (fun i _ => L2.length - (RowKit.intOf i).toNat)
      case atStart => exact ⟨0, by omega, rfl, Lib.hid (fun j c h _ => by omega), _, rfl⟩
      case round =>
        obtain ⟨kb, hkb, rfl, HM, j2, rfl⟩ := hrel
        by_cases hlt2 : kb < L2.length
        · have hc : L2[kb]? = some (L2[kb]'hlt2) := List.getElem?_eq_getElem _
          generalize L2[kb]'hlt2 = c at hc
          obtain ⟨gb, ob, rfl, hq⟩ := HB.out kb c hc
          obtain ⟨sx, sy⟩ := c
          have s0 : v7_4.cell? ⟨gb, ob + kb * 2, none⟩ = some (.int .i32 sx) := hq 0 _ rfl
          have s1 : v7_4.cell? ⟨gb, ob + kb * 2 + 1, none⟩ = some (.int .i32 sy) := hq 1 _ rfl
          have HD := Lib.hid hc
          clear hc hq
          obtain ⟨z, hz⟩ : ∃ z, decide (tx = sx ∧ ty = sy) = z := ⟨_, rfl⟩
          have vv := fun w => cell_cmp tx ty sx sy z hz w
          have HZ := Lib.hid hz
          clear hz
          cases z
          · go_wp2_with fail
            go_quiet (fail)
            go_wp2_with fail
            go_roundw
            case rel => exact ⟨kb + 1, by omega, by go_num, Lib.hid (fun j c h hj => by
                rcases Nat.lt_succ_iff_lt_or_eq.1 h with h | rfl
                · exact HM.out j c h hj
                · have e := hj.symm.trans HD.out
                  injection e with e
                  subst e
                  intro e
                  injection e with e1 e2
                  exact of_decide_eq_false HZ.out ⟨e1.symm, e2.symm⟩), _, rfl⟩
            case measure => simp [RowKit.intOf]; omega
          · go_wp2_with fail
            go_quiet (fail)
            go_wp2_with fail
            go_ret
            exact ⟨rfl, kep_drewN (kep_drewN gg _) _⟩
        · go_wp2_with fail
          go_roundw
          case rel => exact ⟨ka + 1, by omega, by go_num, Lib.hid (fun j c h hj => by
              rcases Nat.lt_succ_iff_lt_or_eq.1 h with h | rfl
              · exact HN.out j c h hj
              · have e := hj.symm.trans HC.out
                injection e with e
                subst e
                intro hm
                obtain ⟨i, hi⟩ := List.getElem?_of_mem hm
                exact HM.out i _ (by have := (List.getElem?_eq_some_iff.1 hi).1; omega) hi rfl), _, rfl⟩
          case measure => simp [RowKit.intOf]; omega
    · exfalso
      obtain ⟨c, h1, h2⟩ := HX.out
      obtain ⟨i, hi⟩ := List.getElem?_of_mem h1
      exact HN.out i c (by have := (List.getElem?_eq_some_iff.1 hi).1; omega) hi h2
end Go.Proofs.YtnbncdgadahhbaaDoor
