import Derived.Test.YtangalkbjochjaaGreatDoorJ02Seq
import Derived.Deep.QuietTactic
import Derived.BigQuiet
import Derived.Test.YtangalkbjochjaaGreatDoorJ00Bits
import Derived.Deep.DeepCutAuto
import Derived.StillTailTactics

/-! J03Fac: Fac, BoxRef, BoxRef2, CellMath, CellRef, CellAll, GridMath, GridRef1, GridRef2, GridRef3, Blk. -/

section
/-
  The package-level table that package cell reads: its two cells, and that a call keeps them.
-/
namespace Go.Proofs.YtangalkbjochjaaGreatDoor
open Go.RowKit

/-- The table's cells hold its two numbers. -/
structure Fac (w : World) : Prop where
  x : w.cell? ⟨0, 0, none⟩ = some (.int .u32 73856093)
  y : w.cell? ⟨0, 1, none⟩ = some (.int .u32 19349663)
theorem Fac.kep {w w' : World} (h : Fac w) (g : Kep w.heap.size w w') : Fac w' := ⟨Kep.all g h.x, Kep.all g h.y⟩
theorem Fac.lt {w : World} (h : Fac w) : 0 < w.heap.size := World.block_lt_of_cell? _ _ h.x
theorem Fac.drew {w : World} (h : Fac w) : Fac w.drew := ⟨by rw [World.cell?_drew]; exact h.x, by rw [World.cell?_drew]; exact h.y⟩
theorem Fac.alloc {w : World} (h : Fac w) (o : Obj) : Fac (w.alloc o) := h.kep (Kep.alloc (Kep.refl _ _) (Nat.le_refl _) o)
end Go.Proofs.YtangalkbjochjaaGreatDoor
end

section
/-
  Package box: contracts of its functions; its slow reference.
-/
namespace Go.Proofs.YtangalkbjochjaaGreatDoor
open Go.RowKit Go.Lib

abbrev BEm (xa ya za ta : Int) (z : Bool) : Prop := ∀ w, Calls Tryz.prog 49 #[.agg #[.int .i32 xa, .int .i32 ya, .int .i32 za, .int .i32 ta]] w fun e w' => e = .returned (.bool z) ∧ Grown w w'
abbrev BOv (xa ya za ta xb yb zb tb : Int) (z : Bool) : Prop := ∀ w, Calls Tryz.prog 35 #[.agg #[.int .i32 xa, .int .i32 ya, .int .i32 za, .int .i32 ta], .agg #[.int .i32 xb, .int .i32 yb, .int .i32 zb, .int .i32 tb]] w fun e w' => e = .returned (.bool z) ∧ Grown w w'
abbrev BOf (k r ax ay m o px py vx vy x y z t : Int) : Prop := ∀ w, Calls Tryz.prog 48 #[.agg #[.int .u32 k, .int .i32 r, .int .i32 ax, .int .i32 ay, .int .i32 m, .int .i32 o, .int .i32 px, .int .i32 py, .int .i32 vx, .int .i32 vy]] w fun e w' => e = .returned (.agg #[.int .i32 x, .int .i32 y, .int .i32 z, .int .i32 t]) ∧ Grown w w'
abbrev REm (xa ya za ta : Int) (z : Bool) : Prop := ∀ w, Calls Tryz.prog 44 #[.agg #[.int .i32 xa, .int .i32 ya, .int .i32 za, .int .i32 ta]] w fun e w' => e = .returned (.bool z) ∧ Grown w w'
abbrev ROv (xa ya za ta xb yb zb tb : Int) (z : Bool) : Prop := ∀ w, Calls Tryz.prog 29 #[.agg #[.int .i32 xa, .int .i32 ya, .int .i32 za, .int .i32 ta], .agg #[.int .i32 xb, .int .i32 yb, .int .i32 zb, .int .i32 tb]] w fun e w' => e = .returned (.bool z) ∧ Grown w w'
abbrev ROf (k r ax ay m o px py vx vy x y z t : Int) : Prop := ∀ w, Calls Tryz.prog 30 #[.agg #[.int .u32 k, .int .i32 r, .int .i32 ax, .int .i32 ay, .int .i32 m, .int .i32 o, .int .i32 px, .int .i32 py, .int .i32 vx, .int .i32 vy]] w fun e w' => e = .returned (.agg #[.int .i32 x, .int .i32 y, .int .i32 z, .int .i32 t]) ∧ Grown w w'
theorem rem (xa ya za ta : Int) (z : Bool) (hz : empB xa ya za ta = z) : REm xa ya za ta z := fun w => by
  by_cases g0 : za < xa
  · obtain rfl : true = z := by rw [← hz]; unfold empB; exact (decide_eq_true (by omega)).symm
    clear hz
    go_enter Tryz.func44, Tryz.ntmps44
    go_wp2
    go_ret
    exact ⟨rfl, (Grown.refl _).alloc _ _⟩
  by_cases g1 : ta < ya
  · obtain rfl : true = z := by rw [← hz]; unfold empB; exact (decide_eq_true (by omega)).symm
    clear hz
    go_enter Tryz.func44, Tryz.ntmps44
    go_wp2
    go_ret
    exact ⟨rfl, (Grown.refl _).alloc _ _⟩
  obtain rfl : false = z := by rw [← hz]; unfold empB; exact (decide_eq_false (by omega)).symm
  clear hz
  go_enter Tryz.func44, Tryz.ntmps44
  go_wp2
  go_ret
  exact ⟨rfl, (Grown.refl _).alloc _ _⟩
theorem rof (k r ax ay m o px py vx vy u v x y x0 y0 x1 y1 : Int) (C1 : Hid (Rab ax u)) (C2 : Hid (Rab ay v)) (hx : wrap32 (u + r) = x) (hy : wrap32 (v + r) = y) (h0 : wrap32 (px - x) = x0) (h1 : wrap32 (py - y) = y0) (h2 : wrap32 (px + x) = x1) (h3 : wrap32 (py + y) = y1) : ROf k r ax ay m o px py vx vy x0 y0 x1 y1 := fun w => by
  have ex : IntKind.i32.wrap (u + r) = x := by rw [← hx, IntKind.wrap_i32]; unfold wrap32; rfl
  have ey : IntKind.i32.wrap (v + r) = y := by rw [← hy, IntKind.wrap_i32]; unfold wrap32; rfl
  have e0 : IntKind.i32.wrap (px - x) = x0 := by rw [← h0, IntKind.wrap_i32]; unfold wrap32; rfl
  have e1 : IntKind.i32.wrap (py - y) = y0 := by rw [← h1, IntKind.wrap_i32]; unfold wrap32; rfl
  have e2 : IntKind.i32.wrap (px + x) = x1 := by rw [← h2, IntKind.wrap_i32]; unfold wrap32; rfl
  have e3 : IntKind.i32.wrap (py + y) = y1 := by rw [← h3, IntKind.wrap_i32]; unfold wrap32; rfl
  go_enter Tryz.func30, Tryz.ntmps30
  go_wp2_with fail
  go_region_held3 (fun w' => w'.cell? ⟨w.heap.size, 1, none⟩ = some (.int .i32 r) ∧ w'.cell? ⟨w.heap.size, 2, none⟩ = some (.int .i32 ax) ∧ w'.cell? ⟨w.heap.size, 3, none⟩ = some (.int .i32 ay) ∧ w'.cell? ⟨w.heap.size, 6, none⟩ = some (.int .i32 px) ∧ w'.cell? ⟨w.heap.size, 7, none⟩ = some (.int .i32 py) ∧ Grown w w')
    (first
      | (with_reducible assumption)
      | first | exact ⟨by rw [World.cell?_drew, World.cell?_alloc_past _ _ _ (by simp), World.cell?_alloc_at _ _ _ _ rfl]; rfl, by rw [World.cell?_drew, World.cell?_alloc_past _ _ _ (by simp), World.cell?_alloc_at _ _ _ _ rfl]; rfl, by rw [World.cell?_drew, World.cell?_alloc_past _ _ _ (by simp), World.cell?_alloc_at _ _ _ _ rfl]; rfl, by rw [World.cell?_drew, World.cell?_alloc_past _ _ _ (by simp), World.cell?_alloc_at _ _ _ _ rfl]; rfl, by rw [World.cell?_drew, World.cell?_alloc_past _ _ _ (by simp), World.cell?_alloc_at _ _ _ _ rfl]; rfl, (((Grown.refl _).alloc _ _).alloc _ _).drew⟩ | (go_split_ands; exact ⟨by rw [World.cell?_drew]; assumption, by rw [World.cell?_drew]; assumption, by rw [World.cell?_drew]; assumption, by rw [World.cell?_drew]; assumption, by rw [World.cell?_drew]; assumption, Grown.drew (by assumption)⟩))
    (first
      | ((with_reducible refine (C1.out _).mono ?_); rintro e w' ⟨rfl, rfl⟩)
      | ((with_reducible refine (C2.out _).mono ?_); rintro e w' ⟨rfl, rfl⟩))
  go_split_ands
  go_wp2_with fail
  go_region_held3 (fun w' => w'.cell? ⟨w.heap.size, 1, none⟩ = some (.int .i32 r) ∧ w'.cell? ⟨w.heap.size, 2, none⟩ = some (.int .i32 ax) ∧ w'.cell? ⟨w.heap.size, 3, none⟩ = some (.int .i32 ay) ∧ w'.cell? ⟨w.heap.size, 6, none⟩ = some (.int .i32 px) ∧ w'.cell? ⟨w.heap.size, 7, none⟩ = some (.int .i32 py) ∧ Grown w w')
    (first
      | (with_reducible assumption)
      | first | exact ⟨by rw [World.cell?_drew, World.cell?_alloc_past _ _ _ (by simp), World.cell?_alloc_at _ _ _ _ rfl]; rfl, by rw [World.cell?_drew, World.cell?_alloc_past _ _ _ (by simp), World.cell?_alloc_at _ _ _ _ rfl]; rfl, by rw [World.cell?_drew, World.cell?_alloc_past _ _ _ (by simp), World.cell?_alloc_at _ _ _ _ rfl]; rfl, by rw [World.cell?_drew, World.cell?_alloc_past _ _ _ (by simp), World.cell?_alloc_at _ _ _ _ rfl]; rfl, by rw [World.cell?_drew, World.cell?_alloc_past _ _ _ (by simp), World.cell?_alloc_at _ _ _ _ rfl]; rfl, (((Grown.refl _).alloc _ _).alloc _ _).drew⟩ | (go_split_ands; exact ⟨by rw [World.cell?_drew]; assumption, by rw [World.cell?_drew]; assumption, by rw [World.cell?_drew]; assumption, by rw [World.cell?_drew]; assumption, by rw [World.cell?_drew]; assumption, Grown.drew (by assumption)⟩))
    (first
      | ((with_reducible refine (C1.out _).mono ?_); rintro e w' ⟨rfl, rfl⟩)
      | ((with_reducible refine (C2.out _).mono ?_); rintro e w' ⟨rfl, rfl⟩))
  go_split_ands
  go_wp2_with fail
  exact bodyPost_ret (v := .agg #[.int .i32 x0, .int .i32 y0, .int .i32 x1, .int .i32 y1]) (by simp [results, Tryz.results30, go_sem]) rfl ⟨rfl, by first | assumption | exact ((((Grown.refl _).alloc _ _).alloc _ _).drew).drew⟩
end Go.Proofs.YtangalkbjochjaaGreatDoor
end

section
/-
  Package box: the reference's Overlap.
-/
namespace Go.Proofs.YtangalkbjochjaaGreatDoor
open Go.RowKit Go.Lib

set_option maxRecDepth 100000 in
set_option maxHeartbeats 2000000 in
theorem rov (xa ya za ta xb yb zb tb : Int) (z : Bool) (hz : ovlB xa ya za ta xb yb zb tb = z) : ROv xa ya za ta xb yb zb tb z := fun w => by
  have C1 := Lib.hid (rem xa ya za ta _ rfl)
  have C2 := Lib.hid (rem xb yb zb tb _ rfl)
  by_cases p1 : za < xa ∨ ta < ya
  · rw [show empB xa ya za ta = true from decide_eq_true p1] at C1
    obtain rfl : false = z := by rw [← hz]; unfold ovlB; exact (decide_eq_false (by omega)).symm
    clear hz
    go_enter Tryz.func29, Tryz.ntmps29
    go_wp2_with (first
      | ((with_reducible refine (C1.out _).mono ?_); rintro e w1 ⟨rfl, g1⟩
         have p0 := kept_cell g1 (b := w.heap.size) (o := 0) (v := .int .i32 xa) (by (repeat (first | rw [World.cell?_drew] | rw [World.cell?_alloc_past _ _ _ (by first | (simp; done) | (simp; omega))])); rw [World.cell?_alloc_at _ _ _ _ (by simp)]; rfl)
         have p1 := kept_cell g1 (b := w.heap.size) (o := 1) (v := .int .i32 ya) (by (repeat (first | rw [World.cell?_drew] | rw [World.cell?_alloc_past _ _ _ (by first | (simp; done) | (simp; omega))])); rw [World.cell?_alloc_at _ _ _ _ (by simp)]; rfl)
         have p2 := kept_cell g1 (b := w.heap.size) (o := 2) (v := .int .i32 za) (by (repeat (first | rw [World.cell?_drew] | rw [World.cell?_alloc_past _ _ _ (by first | (simp; done) | (simp; omega))])); rw [World.cell?_alloc_at _ _ _ _ (by simp)]; rfl)
         have p3 := kept_cell g1 (b := w.heap.size) (o := 3) (v := .int .i32 ta) (by (repeat (first | rw [World.cell?_drew] | rw [World.cell?_alloc_past _ _ _ (by first | (simp; done) | (simp; omega))])); rw [World.cell?_alloc_at _ _ _ _ (by simp)]; rfl)
         have q0 := kept_cell g1 (b := w.heap.size + 1) (o := 0) (v := .int .i32 xb) (by (repeat (first | rw [World.cell?_drew] | rw [World.cell?_alloc_past _ _ _ (by first | (simp; done) | (simp; omega))])); rw [World.cell?_alloc_at _ _ _ _ (by simp)]; rfl)
         have q1 := kept_cell g1 (b := w.heap.size + 1) (o := 1) (v := .int .i32 yb) (by (repeat (first | rw [World.cell?_drew] | rw [World.cell?_alloc_past _ _ _ (by first | (simp; done) | (simp; omega))])); rw [World.cell?_alloc_at _ _ _ _ (by simp)]; rfl)
         have q2 := kept_cell g1 (b := w.heap.size + 1) (o := 2) (v := .int .i32 zb) (by (repeat (first | rw [World.cell?_drew] | rw [World.cell?_alloc_past _ _ _ (by first | (simp; done) | (simp; omega))])); rw [World.cell?_alloc_at _ _ _ _ (by simp)]; rfl)
         have q3 := kept_cell g1 (b := w.heap.size + 1) (o := 3) (v := .int .i32 tb) (by (repeat (first | rw [World.cell?_drew] | rw [World.cell?_alloc_past _ _ _ (by first | (simp; done) | (simp; omega))])); rw [World.cell?_alloc_at _ _ _ _ (by simp)]; rfl)
         have gg := grown_trans (((Grown.refl _).alloc _ _).alloc _ _) g1
         have zp_w1 : w.heap.size < w1.heap.size := World.block_lt_of_cell? _ _ p0
         have zq_w1 : w.heap.size + 1 < w1.heap.size := World.block_lt_of_cell? _ _ q0)
      | ((with_reducible refine (C2.out _).mono ?_); rintro e w2 ⟨rfl, g2⟩
         replace p0 := kept_cell g2 (b := w.heap.size) (o := 0) (v := .int .i32 xa) p0
         replace p1 := kept_cell g2 (b := w.heap.size) (o := 1) (v := .int .i32 ya) p1
         replace p2 := kept_cell g2 (b := w.heap.size) (o := 2) (v := .int .i32 za) p2
         replace p3 := kept_cell g2 (b := w.heap.size) (o := 3) (v := .int .i32 ta) p3
         replace q0 := kept_cell g2 (b := w.heap.size + 1) (o := 0) (v := .int .i32 xb) q0
         replace q1 := kept_cell g2 (b := w.heap.size + 1) (o := 1) (v := .int .i32 yb) q1
         replace q2 := kept_cell g2 (b := w.heap.size + 1) (o := 2) (v := .int .i32 zb) q2
         replace q3 := kept_cell g2 (b := w.heap.size + 1) (o := 3) (v := .int .i32 tb) q3
         replace gg := grown_trans gg g2))
    go_ret
    exact ⟨rfl, gg⟩
  rw [show empB xa ya za ta = false from decide_eq_false p1] at C1
  by_cases p2 : zb < xb ∨ tb < yb
  · rw [show empB xb yb zb tb = true from decide_eq_true p2] at C2
    obtain rfl : false = z := by rw [← hz]; unfold ovlB; exact (decide_eq_false (by omega)).symm
    clear hz
    go_enter Tryz.func29, Tryz.ntmps29
    go_wp2_with (first
      | ((with_reducible refine (C1.out _).mono ?_); rintro e w1 ⟨rfl, g1⟩
         have p0 := kept_cell g1 (b := w.heap.size) (o := 0) (v := .int .i32 xa) (by (repeat (first | rw [World.cell?_drew] | rw [World.cell?_alloc_past _ _ _ (by first | (simp; done) | (simp; omega))])); rw [World.cell?_alloc_at _ _ _ _ (by simp)]; rfl)
         have p1 := kept_cell g1 (b := w.heap.size) (o := 1) (v := .int .i32 ya) (by (repeat (first | rw [World.cell?_drew] | rw [World.cell?_alloc_past _ _ _ (by first | (simp; done) | (simp; omega))])); rw [World.cell?_alloc_at _ _ _ _ (by simp)]; rfl)
         have p2 := kept_cell g1 (b := w.heap.size) (o := 2) (v := .int .i32 za) (by (repeat (first | rw [World.cell?_drew] | rw [World.cell?_alloc_past _ _ _ (by first | (simp; done) | (simp; omega))])); rw [World.cell?_alloc_at _ _ _ _ (by simp)]; rfl)
         have p3 := kept_cell g1 (b := w.heap.size) (o := 3) (v := .int .i32 ta) (by (repeat (first | rw [World.cell?_drew] | rw [World.cell?_alloc_past _ _ _ (by first | (simp; done) | (simp; omega))])); rw [World.cell?_alloc_at _ _ _ _ (by simp)]; rfl)
         have q0 := kept_cell g1 (b := w.heap.size + 1) (o := 0) (v := .int .i32 xb) (by (repeat (first | rw [World.cell?_drew] | rw [World.cell?_alloc_past _ _ _ (by first | (simp; done) | (simp; omega))])); rw [World.cell?_alloc_at _ _ _ _ (by simp)]; rfl)
         have q1 := kept_cell g1 (b := w.heap.size + 1) (o := 1) (v := .int .i32 yb) (by (repeat (first | rw [World.cell?_drew] | rw [World.cell?_alloc_past _ _ _ (by first | (simp; done) | (simp; omega))])); rw [World.cell?_alloc_at _ _ _ _ (by simp)]; rfl)
         have q2 := kept_cell g1 (b := w.heap.size + 1) (o := 2) (v := .int .i32 zb) (by (repeat (first | rw [World.cell?_drew] | rw [World.cell?_alloc_past _ _ _ (by first | (simp; done) | (simp; omega))])); rw [World.cell?_alloc_at _ _ _ _ (by simp)]; rfl)
         have q3 := kept_cell g1 (b := w.heap.size + 1) (o := 3) (v := .int .i32 tb) (by (repeat (first | rw [World.cell?_drew] | rw [World.cell?_alloc_past _ _ _ (by first | (simp; done) | (simp; omega))])); rw [World.cell?_alloc_at _ _ _ _ (by simp)]; rfl)
         have gg := grown_trans (((Grown.refl _).alloc _ _).alloc _ _) g1
         have zp_w1 : w.heap.size < w1.heap.size := World.block_lt_of_cell? _ _ p0
         have zq_w1 : w.heap.size + 1 < w1.heap.size := World.block_lt_of_cell? _ _ q0)
      | ((with_reducible refine (C2.out _).mono ?_); rintro e w2 ⟨rfl, g2⟩
         replace p0 := kept_cell g2 (b := w.heap.size) (o := 0) (v := .int .i32 xa) p0
         replace p1 := kept_cell g2 (b := w.heap.size) (o := 1) (v := .int .i32 ya) p1
         replace p2 := kept_cell g2 (b := w.heap.size) (o := 2) (v := .int .i32 za) p2
         replace p3 := kept_cell g2 (b := w.heap.size) (o := 3) (v := .int .i32 ta) p3
         replace q0 := kept_cell g2 (b := w.heap.size + 1) (o := 0) (v := .int .i32 xb) q0
         replace q1 := kept_cell g2 (b := w.heap.size + 1) (o := 1) (v := .int .i32 yb) q1
         replace q2 := kept_cell g2 (b := w.heap.size + 1) (o := 2) (v := .int .i32 zb) q2
         replace q3 := kept_cell g2 (b := w.heap.size + 1) (o := 3) (v := .int .i32 tb) q3
         replace gg := grown_trans gg g2))
    go_ret
    exact ⟨rfl, gg⟩
  rw [show empB xb yb zb tb = false from decide_eq_false p2] at C2
  by_cases k0 : xa ≤ zb
  rotate_left
  · have d0 : decide (xa ≤ zb) = false := decide_eq_false k0
    obtain rfl : false = z := by rw [← hz]; unfold ovlB; exact (decide_eq_false (by omega)).symm
    clear hz
    go_enter Tryz.func29, Tryz.ntmps29
    go_wp2_with (first
      | ((with_reducible refine (C1.out _).mono ?_); rintro e w1 ⟨rfl, g1⟩
         have p0 := kept_cell g1 (b := w.heap.size) (o := 0) (v := .int .i32 xa) (by (repeat (first | rw [World.cell?_drew] | rw [World.cell?_alloc_past _ _ _ (by first | (simp; done) | (simp; omega))])); rw [World.cell?_alloc_at _ _ _ _ (by simp)]; rfl)
         have p1 := kept_cell g1 (b := w.heap.size) (o := 1) (v := .int .i32 ya) (by (repeat (first | rw [World.cell?_drew] | rw [World.cell?_alloc_past _ _ _ (by first | (simp; done) | (simp; omega))])); rw [World.cell?_alloc_at _ _ _ _ (by simp)]; rfl)
         have p2 := kept_cell g1 (b := w.heap.size) (o := 2) (v := .int .i32 za) (by (repeat (first | rw [World.cell?_drew] | rw [World.cell?_alloc_past _ _ _ (by first | (simp; done) | (simp; omega))])); rw [World.cell?_alloc_at _ _ _ _ (by simp)]; rfl)
         have p3 := kept_cell g1 (b := w.heap.size) (o := 3) (v := .int .i32 ta) (by (repeat (first | rw [World.cell?_drew] | rw [World.cell?_alloc_past _ _ _ (by first | (simp; done) | (simp; omega))])); rw [World.cell?_alloc_at _ _ _ _ (by simp)]; rfl)
         have q0 := kept_cell g1 (b := w.heap.size + 1) (o := 0) (v := .int .i32 xb) (by (repeat (first | rw [World.cell?_drew] | rw [World.cell?_alloc_past _ _ _ (by first | (simp; done) | (simp; omega))])); rw [World.cell?_alloc_at _ _ _ _ (by simp)]; rfl)
         have q1 := kept_cell g1 (b := w.heap.size + 1) (o := 1) (v := .int .i32 yb) (by (repeat (first | rw [World.cell?_drew] | rw [World.cell?_alloc_past _ _ _ (by first | (simp; done) | (simp; omega))])); rw [World.cell?_alloc_at _ _ _ _ (by simp)]; rfl)
         have q2 := kept_cell g1 (b := w.heap.size + 1) (o := 2) (v := .int .i32 zb) (by (repeat (first | rw [World.cell?_drew] | rw [World.cell?_alloc_past _ _ _ (by first | (simp; done) | (simp; omega))])); rw [World.cell?_alloc_at _ _ _ _ (by simp)]; rfl)
         have q3 := kept_cell g1 (b := w.heap.size + 1) (o := 3) (v := .int .i32 tb) (by (repeat (first | rw [World.cell?_drew] | rw [World.cell?_alloc_past _ _ _ (by first | (simp; done) | (simp; omega))])); rw [World.cell?_alloc_at _ _ _ _ (by simp)]; rfl)
         have gg := grown_trans (((Grown.refl _).alloc _ _).alloc _ _) g1
         have zp_w1 : w.heap.size < w1.heap.size := World.block_lt_of_cell? _ _ p0
         have zq_w1 : w.heap.size + 1 < w1.heap.size := World.block_lt_of_cell? _ _ q0)
      | ((with_reducible refine (C2.out _).mono ?_); rintro e w2 ⟨rfl, g2⟩
         replace p0 := kept_cell g2 (b := w.heap.size) (o := 0) (v := .int .i32 xa) p0
         replace p1 := kept_cell g2 (b := w.heap.size) (o := 1) (v := .int .i32 ya) p1
         replace p2 := kept_cell g2 (b := w.heap.size) (o := 2) (v := .int .i32 za) p2
         replace p3 := kept_cell g2 (b := w.heap.size) (o := 3) (v := .int .i32 ta) p3
         replace q0 := kept_cell g2 (b := w.heap.size + 1) (o := 0) (v := .int .i32 xb) q0
         replace q1 := kept_cell g2 (b := w.heap.size + 1) (o := 1) (v := .int .i32 yb) q1
         replace q2 := kept_cell g2 (b := w.heap.size + 1) (o := 2) (v := .int .i32 zb) q2
         replace q3 := kept_cell g2 (b := w.heap.size + 1) (o := 3) (v := .int .i32 tb) q3
         replace gg := grown_trans gg g2))
    go_ret
    exact ⟨rfl, gg⟩
  have d0 : decide (xa ≤ zb) = true := decide_eq_true k0
  by_cases k1 : xb ≤ za
  rotate_left
  · have d1 : decide (xb ≤ za) = false := decide_eq_false k1
    obtain rfl : false = z := by rw [← hz]; unfold ovlB; exact (decide_eq_false (by omega)).symm
    clear hz
    go_enter Tryz.func29, Tryz.ntmps29
    go_wp2_with (first
      | ((with_reducible refine (C1.out _).mono ?_); rintro e w1 ⟨rfl, g1⟩
         have p0 := kept_cell g1 (b := w.heap.size) (o := 0) (v := .int .i32 xa) (by (repeat (first | rw [World.cell?_drew] | rw [World.cell?_alloc_past _ _ _ (by first | (simp; done) | (simp; omega))])); rw [World.cell?_alloc_at _ _ _ _ (by simp)]; rfl)
         have p1 := kept_cell g1 (b := w.heap.size) (o := 1) (v := .int .i32 ya) (by (repeat (first | rw [World.cell?_drew] | rw [World.cell?_alloc_past _ _ _ (by first | (simp; done) | (simp; omega))])); rw [World.cell?_alloc_at _ _ _ _ (by simp)]; rfl)
         have p2 := kept_cell g1 (b := w.heap.size) (o := 2) (v := .int .i32 za) (by (repeat (first | rw [World.cell?_drew] | rw [World.cell?_alloc_past _ _ _ (by first | (simp; done) | (simp; omega))])); rw [World.cell?_alloc_at _ _ _ _ (by simp)]; rfl)
         have p3 := kept_cell g1 (b := w.heap.size) (o := 3) (v := .int .i32 ta) (by (repeat (first | rw [World.cell?_drew] | rw [World.cell?_alloc_past _ _ _ (by first | (simp; done) | (simp; omega))])); rw [World.cell?_alloc_at _ _ _ _ (by simp)]; rfl)
         have q0 := kept_cell g1 (b := w.heap.size + 1) (o := 0) (v := .int .i32 xb) (by (repeat (first | rw [World.cell?_drew] | rw [World.cell?_alloc_past _ _ _ (by first | (simp; done) | (simp; omega))])); rw [World.cell?_alloc_at _ _ _ _ (by simp)]; rfl)
         have q1 := kept_cell g1 (b := w.heap.size + 1) (o := 1) (v := .int .i32 yb) (by (repeat (first | rw [World.cell?_drew] | rw [World.cell?_alloc_past _ _ _ (by first | (simp; done) | (simp; omega))])); rw [World.cell?_alloc_at _ _ _ _ (by simp)]; rfl)
         have q2 := kept_cell g1 (b := w.heap.size + 1) (o := 2) (v := .int .i32 zb) (by (repeat (first | rw [World.cell?_drew] | rw [World.cell?_alloc_past _ _ _ (by first | (simp; done) | (simp; omega))])); rw [World.cell?_alloc_at _ _ _ _ (by simp)]; rfl)
         have q3 := kept_cell g1 (b := w.heap.size + 1) (o := 3) (v := .int .i32 tb) (by (repeat (first | rw [World.cell?_drew] | rw [World.cell?_alloc_past _ _ _ (by first | (simp; done) | (simp; omega))])); rw [World.cell?_alloc_at _ _ _ _ (by simp)]; rfl)
         have gg := grown_trans (((Grown.refl _).alloc _ _).alloc _ _) g1
         have zp_w1 : w.heap.size < w1.heap.size := World.block_lt_of_cell? _ _ p0
         have zq_w1 : w.heap.size + 1 < w1.heap.size := World.block_lt_of_cell? _ _ q0)
      | ((with_reducible refine (C2.out _).mono ?_); rintro e w2 ⟨rfl, g2⟩
         replace p0 := kept_cell g2 (b := w.heap.size) (o := 0) (v := .int .i32 xa) p0
         replace p1 := kept_cell g2 (b := w.heap.size) (o := 1) (v := .int .i32 ya) p1
         replace p2 := kept_cell g2 (b := w.heap.size) (o := 2) (v := .int .i32 za) p2
         replace p3 := kept_cell g2 (b := w.heap.size) (o := 3) (v := .int .i32 ta) p3
         replace q0 := kept_cell g2 (b := w.heap.size + 1) (o := 0) (v := .int .i32 xb) q0
         replace q1 := kept_cell g2 (b := w.heap.size + 1) (o := 1) (v := .int .i32 yb) q1
         replace q2 := kept_cell g2 (b := w.heap.size + 1) (o := 2) (v := .int .i32 zb) q2
         replace q3 := kept_cell g2 (b := w.heap.size + 1) (o := 3) (v := .int .i32 tb) q3
         replace gg := grown_trans gg g2))
    go_ret
    exact ⟨rfl, gg⟩
  have d1 : decide (xb ≤ za) = true := decide_eq_true k1
  by_cases k2 : ya ≤ tb
  rotate_left
  · have d2 : decide (ya ≤ tb) = false := decide_eq_false k2
    obtain rfl : false = z := by rw [← hz]; unfold ovlB; exact (decide_eq_false (by omega)).symm
    clear hz
    go_enter Tryz.func29, Tryz.ntmps29
    go_wp2_with (first
      | ((with_reducible refine (C1.out _).mono ?_); rintro e w1 ⟨rfl, g1⟩
         have p0 := kept_cell g1 (b := w.heap.size) (o := 0) (v := .int .i32 xa) (by (repeat (first | rw [World.cell?_drew] | rw [World.cell?_alloc_past _ _ _ (by first | (simp; done) | (simp; omega))])); rw [World.cell?_alloc_at _ _ _ _ (by simp)]; rfl)
         have p1 := kept_cell g1 (b := w.heap.size) (o := 1) (v := .int .i32 ya) (by (repeat (first | rw [World.cell?_drew] | rw [World.cell?_alloc_past _ _ _ (by first | (simp; done) | (simp; omega))])); rw [World.cell?_alloc_at _ _ _ _ (by simp)]; rfl)
         have p2 := kept_cell g1 (b := w.heap.size) (o := 2) (v := .int .i32 za) (by (repeat (first | rw [World.cell?_drew] | rw [World.cell?_alloc_past _ _ _ (by first | (simp; done) | (simp; omega))])); rw [World.cell?_alloc_at _ _ _ _ (by simp)]; rfl)
         have p3 := kept_cell g1 (b := w.heap.size) (o := 3) (v := .int .i32 ta) (by (repeat (first | rw [World.cell?_drew] | rw [World.cell?_alloc_past _ _ _ (by first | (simp; done) | (simp; omega))])); rw [World.cell?_alloc_at _ _ _ _ (by simp)]; rfl)
         have q0 := kept_cell g1 (b := w.heap.size + 1) (o := 0) (v := .int .i32 xb) (by (repeat (first | rw [World.cell?_drew] | rw [World.cell?_alloc_past _ _ _ (by first | (simp; done) | (simp; omega))])); rw [World.cell?_alloc_at _ _ _ _ (by simp)]; rfl)
         have q1 := kept_cell g1 (b := w.heap.size + 1) (o := 1) (v := .int .i32 yb) (by (repeat (first | rw [World.cell?_drew] | rw [World.cell?_alloc_past _ _ _ (by first | (simp; done) | (simp; omega))])); rw [World.cell?_alloc_at _ _ _ _ (by simp)]; rfl)
         have q2 := kept_cell g1 (b := w.heap.size + 1) (o := 2) (v := .int .i32 zb) (by (repeat (first | rw [World.cell?_drew] | rw [World.cell?_alloc_past _ _ _ (by first | (simp; done) | (simp; omega))])); rw [World.cell?_alloc_at _ _ _ _ (by simp)]; rfl)
         have q3 := kept_cell g1 (b := w.heap.size + 1) (o := 3) (v := .int .i32 tb) (by (repeat (first | rw [World.cell?_drew] | rw [World.cell?_alloc_past _ _ _ (by first | (simp; done) | (simp; omega))])); rw [World.cell?_alloc_at _ _ _ _ (by simp)]; rfl)
         have gg := grown_trans (((Grown.refl _).alloc _ _).alloc _ _) g1
         have zp_w1 : w.heap.size < w1.heap.size := World.block_lt_of_cell? _ _ p0
         have zq_w1 : w.heap.size + 1 < w1.heap.size := World.block_lt_of_cell? _ _ q0)
      | ((with_reducible refine (C2.out _).mono ?_); rintro e w2 ⟨rfl, g2⟩
         replace p0 := kept_cell g2 (b := w.heap.size) (o := 0) (v := .int .i32 xa) p0
         replace p1 := kept_cell g2 (b := w.heap.size) (o := 1) (v := .int .i32 ya) p1
         replace p2 := kept_cell g2 (b := w.heap.size) (o := 2) (v := .int .i32 za) p2
         replace p3 := kept_cell g2 (b := w.heap.size) (o := 3) (v := .int .i32 ta) p3
         replace q0 := kept_cell g2 (b := w.heap.size + 1) (o := 0) (v := .int .i32 xb) q0
         replace q1 := kept_cell g2 (b := w.heap.size + 1) (o := 1) (v := .int .i32 yb) q1
         replace q2 := kept_cell g2 (b := w.heap.size + 1) (o := 2) (v := .int .i32 zb) q2
         replace q3 := kept_cell g2 (b := w.heap.size + 1) (o := 3) (v := .int .i32 tb) q3
         replace gg := grown_trans gg g2))
    go_ret
    exact ⟨rfl, gg⟩
  have d2 : decide (ya ≤ tb) = true := decide_eq_true k2
  by_cases k3 : yb ≤ ta
  rotate_left
  · have d3 : decide (yb ≤ ta) = false := decide_eq_false k3
    obtain rfl : false = z := by rw [← hz]; unfold ovlB; exact (decide_eq_false (by omega)).symm
    clear hz
    go_enter Tryz.func29, Tryz.ntmps29
    go_wp2_with (first
      | ((with_reducible refine (C1.out _).mono ?_); rintro e w1 ⟨rfl, g1⟩
         have p0 := kept_cell g1 (b := w.heap.size) (o := 0) (v := .int .i32 xa) (by (repeat (first | rw [World.cell?_drew] | rw [World.cell?_alloc_past _ _ _ (by first | (simp; done) | (simp; omega))])); rw [World.cell?_alloc_at _ _ _ _ (by simp)]; rfl)
         have p1 := kept_cell g1 (b := w.heap.size) (o := 1) (v := .int .i32 ya) (by (repeat (first | rw [World.cell?_drew] | rw [World.cell?_alloc_past _ _ _ (by first | (simp; done) | (simp; omega))])); rw [World.cell?_alloc_at _ _ _ _ (by simp)]; rfl)
         have p2 := kept_cell g1 (b := w.heap.size) (o := 2) (v := .int .i32 za) (by (repeat (first | rw [World.cell?_drew] | rw [World.cell?_alloc_past _ _ _ (by first | (simp; done) | (simp; omega))])); rw [World.cell?_alloc_at _ _ _ _ (by simp)]; rfl)
         have p3 := kept_cell g1 (b := w.heap.size) (o := 3) (v := .int .i32 ta) (by (repeat (first | rw [World.cell?_drew] | rw [World.cell?_alloc_past _ _ _ (by first | (simp; done) | (simp; omega))])); rw [World.cell?_alloc_at _ _ _ _ (by simp)]; rfl)
         have q0 := kept_cell g1 (b := w.heap.size + 1) (o := 0) (v := .int .i32 xb) (by (repeat (first | rw [World.cell?_drew] | rw [World.cell?_alloc_past _ _ _ (by first | (simp; done) | (simp; omega))])); rw [World.cell?_alloc_at _ _ _ _ (by simp)]; rfl)
         have q1 := kept_cell g1 (b := w.heap.size + 1) (o := 1) (v := .int .i32 yb) (by (repeat (first | rw [World.cell?_drew] | rw [World.cell?_alloc_past _ _ _ (by first | (simp; done) | (simp; omega))])); rw [World.cell?_alloc_at _ _ _ _ (by simp)]; rfl)
         have q2 := kept_cell g1 (b := w.heap.size + 1) (o := 2) (v := .int .i32 zb) (by (repeat (first | rw [World.cell?_drew] | rw [World.cell?_alloc_past _ _ _ (by first | (simp; done) | (simp; omega))])); rw [World.cell?_alloc_at _ _ _ _ (by simp)]; rfl)
         have q3 := kept_cell g1 (b := w.heap.size + 1) (o := 3) (v := .int .i32 tb) (by (repeat (first | rw [World.cell?_drew] | rw [World.cell?_alloc_past _ _ _ (by first | (simp; done) | (simp; omega))])); rw [World.cell?_alloc_at _ _ _ _ (by simp)]; rfl)
         have gg := grown_trans (((Grown.refl _).alloc _ _).alloc _ _) g1
         have zp_w1 : w.heap.size < w1.heap.size := World.block_lt_of_cell? _ _ p0
         have zq_w1 : w.heap.size + 1 < w1.heap.size := World.block_lt_of_cell? _ _ q0)
      | ((with_reducible refine (C2.out _).mono ?_); rintro e w2 ⟨rfl, g2⟩
         replace p0 := kept_cell g2 (b := w.heap.size) (o := 0) (v := .int .i32 xa) p0
         replace p1 := kept_cell g2 (b := w.heap.size) (o := 1) (v := .int .i32 ya) p1
         replace p2 := kept_cell g2 (b := w.heap.size) (o := 2) (v := .int .i32 za) p2
         replace p3 := kept_cell g2 (b := w.heap.size) (o := 3) (v := .int .i32 ta) p3
         replace q0 := kept_cell g2 (b := w.heap.size + 1) (o := 0) (v := .int .i32 xb) q0
         replace q1 := kept_cell g2 (b := w.heap.size + 1) (o := 1) (v := .int .i32 yb) q1
         replace q2 := kept_cell g2 (b := w.heap.size + 1) (o := 2) (v := .int .i32 zb) q2
         replace q3 := kept_cell g2 (b := w.heap.size + 1) (o := 3) (v := .int .i32 tb) q3
         replace gg := grown_trans gg g2))
    go_ret
    exact ⟨rfl, gg⟩
  have d3 : decide (yb ≤ ta) = true := decide_eq_true k3
  obtain rfl : true = z := by rw [← hz]; unfold ovlB; exact (decide_eq_true (by omega)).symm
  clear hz
  go_enter Tryz.func29, Tryz.ntmps29
  go_wp2_with (first
    | ((with_reducible refine (C1.out _).mono ?_); rintro e w1 ⟨rfl, g1⟩
       have p0 := kept_cell g1 (b := w.heap.size) (o := 0) (v := .int .i32 xa) (by (repeat (first | rw [World.cell?_drew] | rw [World.cell?_alloc_past _ _ _ (by first | (simp; done) | (simp; omega))])); rw [World.cell?_alloc_at _ _ _ _ (by simp)]; rfl)
       have p1 := kept_cell g1 (b := w.heap.size) (o := 1) (v := .int .i32 ya) (by (repeat (first | rw [World.cell?_drew] | rw [World.cell?_alloc_past _ _ _ (by first | (simp; done) | (simp; omega))])); rw [World.cell?_alloc_at _ _ _ _ (by simp)]; rfl)
       have p2 := kept_cell g1 (b := w.heap.size) (o := 2) (v := .int .i32 za) (by (repeat (first | rw [World.cell?_drew] | rw [World.cell?_alloc_past _ _ _ (by first | (simp; done) | (simp; omega))])); rw [World.cell?_alloc_at _ _ _ _ (by simp)]; rfl)
       have p3 := kept_cell g1 (b := w.heap.size) (o := 3) (v := .int .i32 ta) (by (repeat (first | rw [World.cell?_drew] | rw [World.cell?_alloc_past _ _ _ (by first | (simp; done) | (simp; omega))])); rw [World.cell?_alloc_at _ _ _ _ (by simp)]; rfl)
       have q0 := kept_cell g1 (b := w.heap.size + 1) (o := 0) (v := .int .i32 xb) (by (repeat (first | rw [World.cell?_drew] | rw [World.cell?_alloc_past _ _ _ (by first | (simp; done) | (simp; omega))])); rw [World.cell?_alloc_at _ _ _ _ (by simp)]; rfl)
       have q1 := kept_cell g1 (b := w.heap.size + 1) (o := 1) (v := .int .i32 yb) (by (repeat (first | rw [World.cell?_drew] | rw [World.cell?_alloc_past _ _ _ (by first | (simp; done) | (simp; omega))])); rw [World.cell?_alloc_at _ _ _ _ (by simp)]; rfl)
       have q2 := kept_cell g1 (b := w.heap.size + 1) (o := 2) (v := .int .i32 zb) (by (repeat (first | rw [World.cell?_drew] | rw [World.cell?_alloc_past _ _ _ (by first | (simp; done) | (simp; omega))])); rw [World.cell?_alloc_at _ _ _ _ (by simp)]; rfl)
       have q3 := kept_cell g1 (b := w.heap.size + 1) (o := 3) (v := .int .i32 tb) (by (repeat (first | rw [World.cell?_drew] | rw [World.cell?_alloc_past _ _ _ (by first | (simp; done) | (simp; omega))])); rw [World.cell?_alloc_at _ _ _ _ (by simp)]; rfl)
       have gg := grown_trans (((Grown.refl _).alloc _ _).alloc _ _) g1
       have zp_w1 : w.heap.size < w1.heap.size := World.block_lt_of_cell? _ _ p0
       have zq_w1 : w.heap.size + 1 < w1.heap.size := World.block_lt_of_cell? _ _ q0)
    | ((with_reducible refine (C2.out _).mono ?_); rintro e w2 ⟨rfl, g2⟩
       replace p0 := kept_cell g2 (b := w.heap.size) (o := 0) (v := .int .i32 xa) p0
       replace p1 := kept_cell g2 (b := w.heap.size) (o := 1) (v := .int .i32 ya) p1
       replace p2 := kept_cell g2 (b := w.heap.size) (o := 2) (v := .int .i32 za) p2
       replace p3 := kept_cell g2 (b := w.heap.size) (o := 3) (v := .int .i32 ta) p3
       replace q0 := kept_cell g2 (b := w.heap.size + 1) (o := 0) (v := .int .i32 xb) q0
       replace q1 := kept_cell g2 (b := w.heap.size + 1) (o := 1) (v := .int .i32 yb) q1
       replace q2 := kept_cell g2 (b := w.heap.size + 1) (o := 2) (v := .int .i32 zb) q2
       replace q3 := kept_cell g2 (b := w.heap.size + 1) (o := 3) (v := .int .i32 tb) q3
       replace gg := grown_trans gg g2))
  go_ret
  exact ⟨rfl, gg⟩
end Go.Proofs.YtangalkbjochjaaGreatDoor
end

section
/-
  Package cell: cells and buckets as numbers (no program).
-/
namespace Go.Proofs.YtangalkbjochjaaGreatDoor

/-- A row's first n cells, from column c on. -/
def rowC (c r : Int) (n : Nat) : List (Int × Int) := (List.range n).map fun (i : Nat) => (c + (i : Int), r)
/-- m rows of n cells. -/
def allC (c r : Int) (n m : Nat) : List (Int × Int) := (List.range m).flatMap fun (j : Nat) => rowC c (r + (j : Int)) n
theorem rowC_zero (c r : Int) : rowC c r 0 = [] := rfl
theorem rowC_succ (c r : Int) (n : Nat) : rowC c r (n + 1) = rowC c r n ++ [(c + (n : Int), r)] := by simp [rowC, List.range_succ]
theorem allC_succ (c r : Int) (n m : Nat) : allC c r n (m + 1) = allC c r n m ++ rowC c (r + (m : Int)) n := by simp [allC, List.range_succ]
theorem rowC_len (c r : Int) (n : Nat) : (rowC c r n).length = n := by simp [rowC]
theorem allC_len (c r : Int) (n : Nat) : ∀ m : Nat, (allC c r n m).length = m * n
  | 0 => by simp [allC]
  | m + 1 => by rw [allC_succ, List.length_append, rowC_len, allC_len c r n m, Nat.succ_mul]
theorem rowC_mem {c r x y : Int} {n : Nat} : (x, y) ∈ rowC c r n ↔ (c ≤ x ∧ x < c + (n : Int)) ∧ y = r := by
  simp only [rowC, List.mem_map, List.mem_range, Prod.mk.injEq]
  constructor
  · rintro ⟨i, h, h1, h2⟩
    exact ⟨by omega, h2.symm⟩
  · rintro ⟨⟨h1, h2⟩, h3⟩
    exact ⟨(x - c).toNat, by omega, by omega, h3.symm⟩
theorem allC_mem {c r x y : Int} {n m : Nat} : (x, y) ∈ allC c r n m ↔ (c ≤ x ∧ x < c + (n : Int)) ∧ (r ≤ y ∧ y < r + (m : Int)) := by
  simp only [allC, List.mem_flatMap, List.mem_range, rowC_mem]
  constructor
  · rintro ⟨j, h, h1, h2⟩
    exact ⟨h1, by omega⟩
  · rintro ⟨h1, h2, h3⟩
    exact ⟨(y - r).toNat, by omega, h1, by omega⟩
/-- The column of a number. -/
def colN (n : Int) : Int := n / 4194304
theorem colN_in {n : Int} (h : -2147483648 ≤ n ∧ n < 2147483648) : -512 ≤ colN n ∧ colN n ≤ 511 := by unfold colN; omega
theorem colN_le {a b : Int} (h : a ≤ b) : colN a ≤ colN b := by unfold colN; omega
end Go.Proofs.YtangalkbjochjaaGreatDoor
end

section
/-
  Package cell: its slow reference (but All).
-/
namespace Go.Proofs.YtangalkbjochjaaGreatDoor
open Go.RowKit Go.Lib

/-- The bucket of a cell. -/
def bktN (x y : Int) : Int := (((x % 4294967296 * 73856093 % 4294967296).toNat ^^^ (y % 4294967296 * 19349663 % 4294967296).toNat : Nat) : Int) % 1024
theorem to_nat32 (n : Int) : ∃ a : Nat, n % 4294967296 = (a : Int) ∧ a < 4294967296 := ⟨(n % 4294967296).toNat, by omega, by omega⟩
end Go.Proofs.YtangalkbjochjaaGreatDoor
end

section
/-
  Package cell: the reference's All; lists of cells that are the same.
-/
namespace Go.Proofs.YtangalkbjochjaaGreatDoor
open Go.RowKit Go.Lib

/-- A cell's two values. -/
def cv (c : Int × Int) : List Value := [.int .i32 c.1, .int .i32 c.2]
theorem cv_len (c : Int × Int) : (cv c).length = 2 := rfl
theorem cv_one (c : Int × Int) : ∀ u ∈ cv c, u.oneCell' = true := by
  intro u hu
  simp only [cv, List.mem_cons, List.not_mem_nil, or_false] at hu
  rcases hu with rfl | rfl <;> rfl
theorem cell_neq (a b : Int) (w : World) : (binOp .neq 117 (.agg #[.int .i32 a, .int .i32 b]) (.agg #[.int .i32 a, .int .i32 b])).run Tryz.prog w = .ok (.bool false) w := by simp [go_sem]
theorem kep_grownN (w : World) (j : Nat) : Kep w.heap.size w (w.drewN j) := kep_drewN (Kep.refl _ _) j
end Go.Proofs.YtangalkbjochjaaGreatDoor
end

section
/-
  Package grid: entries, their buckets, candidates as numbers and lists (no program).
-/
namespace Go.Proofs.YtangalkbjochjaaGreatDoor
open Go.RowKit Go.Lib

/-- An entry of a grid: its key and its box. -/
structure Ent where
  k : Int
  a : Int
  b : Int
  c : Int
  d : Int
/-- An entry's five cells. -/
def ev (e : Ent) : List Value := [.int .u32 e.k, .int .i32 e.a, .int .i32 e.b, .int .i32 e.c, .int .i32 e.d]
theorem ev_len (e : Ent) : (ev e).length = 5 := rfl
/-- A number's, a key's, a pair's cells. -/
def iv (n : Int) : List Value := [.int .i64 n]
theorem iv_len (n : Int) : (iv n).length = 1 := rfl
theorem iv_one (n : Int) : ∀ u ∈ iv n, u.oneCell' = true := by
  intro u hu
  simp only [iv, List.mem_cons, List.not_mem_nil, or_false] at hu
  subst hu
  rfl
def kv (n : Int) : List Value := [.int .u32 n]
theorem kv_len (n : Int) : (kv n).length = 1 := rfl
theorem kv_one (n : Int) : ∀ u ∈ kv n, u.oneCell' = true := by
  intro u hu
  simp only [kv, List.mem_cons, List.not_mem_nil, or_false] at hu
  subst hu
  rfl
def pv (p : Int × Int) : List Value := [.int .u32 p.1, .int .u32 p.2]
theorem pv_len (p : Int × Int) : (pv p).length = 2 := rfl
theorem pv_one (p : Int × Int) : ∀ u ∈ pv p, u.oneCell' = true := by
  intro u hu
  simp only [pv, List.mem_cons, List.not_mem_nil, or_false] at hu
  rcases hu with rfl | rfl <;> rfl
/-- The columns and rows of a box, its cells, its buckets. -/
def ncB (a c : Int) : Nat := (colN c - colN a + 1).toNat
def cellsB (a b c d : Int) : List (Int × Int) := if empB a b c d = true then [] else allC (colN a) (colN b) (ncB a c) (ncB b d)
def bksB (a b c d : Int) : List Int := (cellsB a b c d).map fun x => bktN x.1 x.2
def bksE (e : Ent) : List Int := bksB e.a e.b e.c e.d
/-- Two entries have a bucket in common. -/
def comE (x y : Ent) : Bool := (bksE x).any fun n => (bksE y).contains n
def candT (x y : Ent) : Bool := decide (x.k < y.k) && comE x y
/-- The candidates, as the slow reference puts them together. -/
def candL (L : List Ent) : List (Int × Int) := L.foldl (fun acc x => L.foldl (fun acc y => if candT x y = true then putS pless acc (x.k, y.k) else acc) acc) []
def atL (L : List Ent) (n : Int) : List Int := L.foldl (fun acc x => if (bksE x).contains n = true then putS kless acc x.k else acc) []
theorem atL_spec (L : List Ent) (n : Int) : SortS kless (atL L n) ∧ ∀ x, x ∈ atL L n ↔ ∃ e ∈ L, (bksE e).contains n = true ∧ x = e.k := by
  obtain ⟨h1, h2⟩ := fold_put kless_strict (fun e : Ent => e.k) (fun e => (bksE e).contains n) L [] List.Pairwise.nil
  exact ⟨h1, fun x => by unfold atL; rw [h2]; simp⟩
theorem candL_go (M : List Ent) : ∀ (L : List Ent) (acc : List (Int × Int)), SortS pless acc →
    SortS pless (L.foldl (fun acc x => M.foldl (fun acc y => if candT x y = true then putS pless acc (x.k, y.k) else acc) acc) acc) ∧
    ∀ p, p ∈ L.foldl (fun acc x => M.foldl (fun acc y => if candT x y = true then putS pless acc (x.k, y.k) else acc) acc) acc ↔ p ∈ acc ∨ ∃ x ∈ L, ∃ y ∈ M, candT x y = true ∧ p = (x.k, y.k)
  | [], acc, h => ⟨h, fun p => by simp⟩
  | x :: L, acc, h => by
    rw [List.foldl_cons]
    obtain ⟨i1, i2⟩ := fold_put pless_strict (fun y : Ent => (x.k, y.k)) (fun y => candT x y) M acc h
    obtain ⟨j1, j2⟩ := candL_go M L _ i1
    refine ⟨j1, fun p => ?_⟩
    rw [j2, i2]
    constructor
    · rintro ((a | ⟨y, hy, hc, rfl⟩) | ⟨z, hz, y, hy, hc, rfl⟩)
      · exact .inl a
      · exact .inr ⟨x, by simp, y, hy, hc, rfl⟩
      · exact .inr ⟨z, by simp [hz], y, hy, hc, rfl⟩
    · rintro (a | ⟨z, hz, y, hy, hc, rfl⟩)
      · exact .inl (.inl a)
      · rcases List.mem_cons.1 hz with rfl | hz
        · exact .inl (.inr ⟨y, hy, hc, rfl⟩)
        · exact .inr ⟨z, hz, y, hy, hc, rfl⟩
theorem candL_spec (L : List Ent) : SortS pless (candL L) ∧ ∀ p, p ∈ candL L ↔ ∃ x ∈ L, ∃ y ∈ L, candT x y = true ∧ p = (x.k, y.k) := by
  obtain ⟨h1, h2⟩ := candL_go L L [] List.Pairwise.nil
  exact ⟨h1, fun p => by unfold candL; rw [h2]; simp⟩
theorem dropOne_len {α : Type} [DecidableEq α] (p : α) (l : List α) : (dropOne p l).length ≤ l.length := (dropOne_sub p l).length_le
theorem putS_len {α : Type} [DecidableEq α] (lt : α → α → Bool) (l : List α) (p : α) : (putS lt l p).length ≤ l.length + 1 := by
  unfold putS
  have h1 := dropOne_len p (l.dropWhile fun x => lt x p)
  have h2 := congrArg List.length (List.takeWhile_append_dropWhile (p := fun x => lt x p) (l := l))
  rw [List.length_append] at h2
  rw [List.length_append, List.length_cons]
  omega
/-- The candidates after the first entries: of all, and with the one at hand. -/
def stepC (x : Ent) (acc : List (Int × Int)) (y : Ent) : List (Int × Int) := if candT x y = true then putS pless acc (x.k, y.k) else acc
def accI (L : List Ent) (x : Ent) (acc : List (Int × Int)) (b : Nat) : List (Int × Int) := (L.take b).foldl (stepC x) acc
def accO (L : List Ent) (a : Nat) : List (Int × Int) := (L.take a).foldl (fun acc x => L.foldl (stepC x) acc) []
theorem accI_succ {L : List Ent} {x y : Ent} {acc : List (Int × Int)} {b : Nat} (h : L[b]? = some y) : accI L x acc (b + 1) = stepC x (accI L x acc b) y := by
  unfold accI
  rw [List.take_add_one, h, List.foldl_append]
  rfl
theorem accO_succ {L : List Ent} {x : Ent} {a : Nat} (h : L[a]? = some x) : accO L (a + 1) = accI L x (accO L a) L.length := by
  unfold accO accI
  rw [List.take_add_one, h, List.foldl_append, List.take_length]
  rfl
theorem accO_all {L : List Ent} {a : Nat} (h : L.length ≤ a) : accO L a = candL L := by
  unfold accO candL
  rw [List.take_of_length_le h]
  rfl
theorem stepC_len (x : Ent) (acc : List (Int × Int)) (y : Ent) : (stepC x acc y).length ≤ acc.length + 1 := by
  unfold stepC
  split
  · exact putS_len _ _ _
  · omega
theorem foldC_len (x : Ent) : ∀ (M : List Ent) (acc : List (Int × Int)), (M.foldl (stepC x) acc).length ≤ acc.length + M.length
  | [], acc => by simp
  | y :: M, acc => by
    have := foldC_len x M (stepC x acc y)
    have := stepC_len x acc y
    rw [List.foldl_cons, List.length_cons]
    omega
theorem accI_len (L : List Ent) (x : Ent) (acc : List (Int × Int)) (b : Nat) : (accI L x acc b).length ≤ acc.length + b := by
  have := foldC_len x (L.take b) acc
  have := List.length_take_le b L
  unfold accI
  omega
theorem accO_len (L : List Ent) : ∀ a : Nat, a ≤ L.length → (accO L a).length ≤ a * L.length
  | 0, _ => by simp [accO]
  | a + 1, h => by
    have hx : L[a]? = some (L[a]'(by omega)) := List.getElem?_eq_getElem _
    rw [accO_succ hx]
    have h1 := accI_len L (L[a]'(by omega)) (accO L a) L.length
    have h2 := accO_len L a (by omega)
    rw [Nat.succ_mul]
    omega
theorem any_succ {l : List Int} {t : Int → Bool} {c : Nat} {m : Int} (h : l[c]? = some m) : (l.take (c + 1)).any t = ((l.take c).any t || t m) := by
  rw [List.take_add_one, h, List.any_append]
  simp
def stepA (n : Int) (acc : List Int) (x : Ent) : List Int := if (bksE x).contains n = true then putS kless acc x.k else acc
def accA (L : List Ent) (n : Int) (a : Nat) : List Int := (L.take a).foldl (stepA n) []
theorem accA_succ {L : List Ent} {n : Int} {x : Ent} {a : Nat} (h : L[a]? = some x) : accA L n (a + 1) = stepA n (accA L n a) x := by
  unfold accA
  rw [List.take_add_one, h, List.foldl_append]
  rfl
theorem accA_all {L : List Ent} {n : Int} {a : Nat} (h : L.length ≤ a) : accA L n a = atL L n := by
  unfold accA atL
  rw [List.take_of_length_le h]
  rfl
theorem accA_len (L : List Ent) (n : Int) : ∀ a : Nat, a ≤ L.length → (accA L n a).length ≤ a
  | 0, _ => by simp [accA]
  | a + 1, h => by
    have hx : L[a]? = some (L[a]'(by omega)) := List.getElem?_eq_getElem _
    rw [accA_succ hx]
    have h2 := accA_len L n a (by omega)
    unfold stepA
    split
    · have := putS_len kless (accA L n a) (L[a]'(by omega)).k
      omega
    · omega
/-- Few entries, of few cells. -/
def fewB (L : List Ent) : Bool := decide (L.length ≤ 40) && L.all fun e => decide ((cellsB e.a e.b e.c e.d).length ≤ 50)
end Go.Proofs.YtangalkbjochjaaGreatDoor
end

section
/-
  Package grid: the reference's buckets, Has, Less.
-/
namespace Go.Proofs.YtangalkbjochjaaGreatDoor
open Go.RowKit Go.Lib

abbrev RLs (p q p' q' : Int) (z : Bool) : Prop := ∀ w, Calls Tryz.prog 17 #[.agg #[.int .u32 p, .int .u32 q], .agg #[.int .u32 p', .int .u32 q']] w fun e w' => e = .returned (.bool z) ∧ Kep w.heap.size w w'
theorem rls (p q p' q' : Int) (z : Bool) (hz : pless (p, q) (p', q') = z) : RLs p q p' q' z := fun w => by
  by_cases c0 : p < p'
  · have d0 : decide (p < p') = true := decide_eq_true c0
    obtain rfl : true = z := by rw [← hz]; exact (decide_eq_true (.inl c0)).symm
    clear hz
    go_enter Tryz.func17, Tryz.ntmps17
    go_wp2
    go_ret
    exact ⟨rfl, kep_more (kep_more (Kep.refl _ _) _) _⟩
  have d0 : decide (p < p') = false := decide_eq_false c0
  by_cases c1 : p = p'
  rotate_left
  · have d1 : (p == p') = false := beq_eq_false_iff_ne.2 c1
    obtain rfl : false = z := by rw [← hz]; exact (decide_eq_false (by omega)).symm
    clear hz
    go_enter Tryz.func17, Tryz.ntmps17
    go_wp2
    go_ret
    exact ⟨rfl, kep_more (kep_more (Kep.refl _ _) _) _⟩
  have d1 : (p == p') = true := beq_iff_eq.2 c1
  obtain rfl : decide (q < q') = z := by rw [← hz]; exact decide_eq_decide.2 (by omega)
  clear hz
  obtain ⟨z, h2⟩ : ∃ z, decide (q < q') = z := ⟨_, rfl⟩
  rw [h2]
  go_enter Tryz.func17, Tryz.ntmps17
  go_wp2
  go_ret
  exact ⟨rfl, kep_more (kep_more (Kep.refl _ _) _) _⟩

theorem own_base {w : World} {B B' : Nat} {t : TypeId} {size n : Nat} {v : Value} {xs : List Value} (h : w.ownsRow B t size v n xs) (hb : B' ≤ B) : w.ownsRow B' t size v n xs := by
  refine ⟨h.1, ?_⟩
  rcases h.2 with q | ⟨g, cap, cur, e, hg, r⟩
  · exact .inl q
  · exact .inr ⟨g, cap, cur, e, Nat.le_trans hb hg, r⟩
theorem info_int : (Tryz.prog.info? 3).map (fun i => (i.zero, i.size, i.bytes)) = some (some (.int .i64 0), 1, 8) := by kernel_rfl
end Go.Proofs.YtangalkbjochjaaGreatDoor
end

section
/-
  Package grid: the reference's PutPair, SamePairs.
-/
namespace Go.Proofs.YtangalkbjochjaaGreatDoor
open Go.RowKit Go.Lib

theorem pair_cmp (a b c d : Int) (z : Bool) (h : decide (a = c ∧ b = d) = z) (w : World) : (binOp .eql 31 (.agg #[.int .u32 a, .int .u32 b]) (.agg #[.int .u32 c, .int .u32 d])).run Tryz.prog w = .ok (.bool z) w := by
  rw [← h]
  by_cases e0 : a = c
  · by_cases e1 : b = d
    · subst e0; subst e1
      simp [go_sem]
    · subst e0
      simp [go_sem, e1]
  · simp [go_sem, e0]
theorem pair_ncmp (a b c d : Int) (z : Bool) (h : decide (a = c ∧ b = d) = z) (w : World) : (binOp .neq 31 (.agg #[.int .u32 a, .int .u32 b]) (.agg #[.int .u32 c, .int .u32 d])).run Tryz.prog w = .ok (.bool (!z)) w := by
  rw [← h]
  by_cases e0 : a = c
  · by_cases e1 : b = d
    · subst e0; subst e1
      simp [go_sem]
    · subst e0
      simp [go_sem, e1]
  · simp [go_sem, e0]
theorem info_pair : (Tryz.prog.info? 31).map (fun i => (i.zero, i.size, i.bytes)) = some (some (.agg #[.int .u32 0, .int .u32 0]), 2, 8) := by kernel_rfl
theorem take_while {α : Type} {t : α → Bool} : ∀ {L : List α} {k : Nat}, (∀ x ∈ L.take k, t x = true) → (∀ x, L[k]? = some x → t x = false) → L.takeWhile t = L.take k ∧ L.dropWhile t = L.drop k
  | [], k, _, _ => by simp
  | x :: L, 0, _, h => by
    have := h x rfl
    rw [List.takeWhile_cons_of_neg (by simp [this]), List.dropWhile_cons_of_neg (by simp [this])]
    simp
  | x :: L, k + 1, h1, h2 => by
    have hx := h1 x (by simp)
    obtain ⟨i1, i2⟩ := take_while (L := L) (k := k) (fun y hy => h1 y (by simp [hy])) (fun y hy => h2 y (by simpa using hy))
    rw [List.takeWhile_cons_of_pos hx, List.dropWhile_cons_of_pos hx, i1, i2]
    simp
theorem putS_eq {L : List (Int × Int)} {p : Int × Int} {k : Nat} (h1 : ∀ x ∈ L.take k, pless x p = true) (h2 : ∀ x, L[k]? = some x → pless x p = false) : putS pless L p = L.take k ++ p :: dropOne p (L.drop k) := by
  obtain ⟨e1, e2⟩ := take_while h1 h2
  unfold putS
  rw [e1, e2]
theorem drop_is {L : List (Int × Int)} {a b c d : Int} {k : Nat} (h : L[k]? = some (a, b)) (e : a = c ∧ b = d) : dropOne (c, d) (L.drop k) = L.drop (k + 1) := by
  obtain ⟨hk, q⟩ := List.getElem?_eq_some_iff.1 h
  rw [List.drop_eq_getElem_cons hk, q, dropOne_cons, if_pos (by rw [e.1, e.2])]
theorem drop_not {L : List (Int × Int)} {a b c d : Int} {k : Nat} (h : L[k]? = some (a, b)) (e : ¬ (a = c ∧ b = d)) : dropOne (c, d) (L.drop k) = L.drop k := by
  obtain ⟨hk, q⟩ := List.getElem?_eq_some_iff.1 h
  rw [List.drop_eq_getElem_cons hk, q, dropOne_cons, if_neg (fun h => e (by injection h with h1 h2; exact ⟨h1, h2⟩))]
end Go.Proofs.YtangalkbjochjaaGreatDoor
end

section
/-
  Package grid: the reference's SamePairs; the laws' has.
-/
namespace Go.Proofs.YtangalkbjochjaaGreatDoor
open Go.RowKit Go.Lib

theorem pair_any {L : List (Int × Int)} {pa pb : Int} {k : Nat} {x : Int × Int} (h : L[k]? = some x) : (L.drop k).contains (pa, pb) = (decide (x.1 = pa ∧ x.2 = pb) || (L.drop (k + 1)).contains (pa, pb)) := by
  obtain ⟨hk, e⟩ := List.getElem?_eq_some_iff.1 h
  rw [List.drop_eq_getElem_cons hk, e]
  obtain ⟨a, b⟩ := x
  by_cases c : a = pa ∧ b = pb
  · obtain ⟨rfl, rfl⟩ := c
    simp
  · rw [decide_eq_false c, List.contains_cons]
    have : ((pa, pb) == (a, b)) = false := beq_eq_false_iff_ne.2 (fun e => c (by injection e with e1 e2; exact ⟨e1.symm, e2.symm⟩))
    rw [this]
end Go.Proofs.YtangalkbjochjaaGreatDoor
end

section
/-
  A block of the call's own that holds a struct: its cells at once, and a struct stored into it (no program).
-/
namespace Go.Proofs.YtangalkbjochjaaGreatDoor
open Go.RowKit Go.Lib

/-- The cells of block b from 0 on are vs, and none of the block's cells is frozen. -/
structure ZC (w : World) (b : Nat) (vs : List Value) : Prop where
  at_ : ∀ (i : Nat) (u : Value), vs[i]? = some u → w.cell? ⟨b, i, none⟩ = some u
  frz : ∀ i, w.frozen? ⟨b, i, none⟩ = false
  lt : b < w.heap.size
theorem ZC.kep {w w' : World} {b : Nat} {vs : List Value} (h : ZC w b vs) (g : Kep w.heap.size w w') : ZC w' b vs :=
  ⟨fun i u hu => g.all (h.at_ i u hu), fun i => (g.frozen (p := ⟨b, i, none⟩) h.lt).trans (h.frz i), Nat.lt_of_lt_of_le h.lt g.size⟩
theorem ZC.drew {w : World} {b : Nat} {vs : List Value} (h : ZC w b vs) : ZC w.drew b vs := h.kep (kep_drew (Kep.refl _ _))
theorem ZC.more {w : World} {b : Nat} {vs : List Value} (h : ZC w b vs) (o : Obj) : ZC (w.alloc o) b vs := h.kep (kep_more (Kep.refl _ _) o)
theorem zc_new (w : World) (l : List Value) (t : TypeId) : ZC (w.alloc (.cells ⟨l⟩ t)) w.heap.size l := by
  refine ⟨fun i u hu => ?_, fun i => ?_, by simp⟩
  · rw [World.cell?_alloc_at _ _ _ _ rfl]
    simpa using hu
  · exact World.frozen?_alloc_at _ _ _ _ rfl
/-- A struct stored cell by cell. -/
def setAll (w : World) (b : Nat) : Nat → List Value → World
  | _, [] => w
  | o, v :: l => setAll (w.setCell ⟨b, o, none⟩ v) b (o + 1) l
theorem setAll_size (b : Nat) : ∀ (l : List Value) (o : Nat) (w : World), (setAll w b o l).heap.size = w.heap.size
  | [], _, _ => rfl
  | v :: l, o, w => by
    unfold setAll
    rw [setAll_size b l, World.size_setCell]
theorem setAll_froz (b : Nat) : ∀ (l : List Value) (o : Nat) (w : World) (a : Addr), (setAll w b o l).frozen? a = w.frozen? a
  | [], _, _, _ => rfl
  | v :: l, o, w, a => by
    unfold setAll
    rw [setAll_froz b l, World.frozen?_setCell]
theorem setAll_far (b : Nat) : ∀ (l : List Value) (o : Nat) (w : World) {c i : Nat} {u : Value}, c ≠ b → w.cell? ⟨c, i, none⟩ = some u → (setAll w b o l).cell? ⟨c, i, none⟩ = some u
  | [], _, _, _, _, _, _, h => h
  | v :: l, o, w, c, i, u, hc, h => by
    unfold setAll
    exact setAll_far b l (o + 1) _ hc (sset_far h (fun e => hc e.symm))
theorem setAll_low (b : Nat) : ∀ (l : List Value) (o : Nat) (w : World) {i : Nat} {u : Value}, i < o → w.cell? ⟨b, i, none⟩ = some u → (setAll w b o l).cell? ⟨b, i, none⟩ = some u
  | [], _, _, _, _, _, h => h
  | v :: l, o, w, i, u, hi, h => by
    unfold setAll
    refine setAll_low b l (o + 1) _ (by omega) ?_
    rw [World.cell?_setCell_other (h := by intro e; injection e with _ e2; omega)]
    exact h
theorem setAll_at (b : Nat) : ∀ (l : List Value) (o : Nat) (w : World), (∀ j, j < l.length → (w.cell? ⟨b, o + j, none⟩).isSome = true) → ∀ (i : Nat) (u : Value), l[i]? = some u → (setAll w b o l).cell? ⟨b, o + i, none⟩ = some u
  | [], _, _, _, _, _, h => by simp at h
  | v :: l, o, w, hs, 0, u, h => by
    simp at h
    subst h
    unfold setAll
    refine setAll_low b l (o + 1) _ (by omega) ?_
    exact World.cell?_setCell_same' _ _ _ (hs 0 (by simp))
  | v :: l, o, w, hs, i + 1, u, h => by
    unfold setAll
    have := setAll_at b l (o + 1) (w.setCell ⟨b, o, none⟩ v) (fun j hj => sset_some _ _ _ (by
      have := hs (j + 1) (by simp; omega)
      rw [show o + 1 + j = o + (j + 1) by omega]
      exact this)) i u (by simpa using h)
    rw [show o + (i + 1) = o + 1 + i by omega]
    exact this
theorem ZC.set {w : World} {b : Nat} {vs : List Value} (h : ZC w b vs) (us : List Value) (hl : us.length ≤ vs.length) : ZC (setAll w b 0 us) b us := by
  refine ⟨fun i u hu => ?_, fun i => by rw [setAll_froz]; exact h.frz i, by rw [setAll_size]; exact h.lt⟩
  have := setAll_at b us 0 w (fun j hj => by
    rw [Nat.zero_add]
    have hj2 : j < vs.length := by omega
    rw [h.at_ j _ (List.getElem?_eq_getElem hj2)]
    rfl) i u hu
  rw [Nat.zero_add] at this
  exact this
theorem kep_setAll {a : World} {b : Nat} (hb : a.heap.size ≤ b) : ∀ (l : List Value) (o : Nat) {w : World}, Kep a.heap.size a w → Kep a.heap.size a (setAll w b o l)
  | [], _, _, h => h
  | v :: l, o, w, h => by
    unfold setAll
    exact kep_setAll hb l (o + 1) (kep_set h hb v)
theorem ZC.i {w : World} {b : Nat} {vs : List Value} (h : ZC w b vs) {i : Nat} {u : Value} (hu : vs[i]? = some u) : w.cell? ⟨b, i, none⟩ = some u := h.at_ i u hu
theorem zc_new' (w : World) (l : List Value) (t : TypeId) {b : Nat} (h : b = w.heap.size) : ZC (w.alloc (.cells ⟨l⟩ t)) b l := by subst h; exact zc_new w l t
theorem ZC.far {w : World} {b c : Nat} {vs : List Value} (h : ZC w c vs) (hc : c ≠ b) (l : List Value) : ZC (setAll w b 0 l) c vs :=
  ⟨fun i u hu => setAll_far b l 0 w hc (h.at_ i u hu), fun i => by rw [setAll_froz]; exact h.frz i, by rw [setAll_size]; exact h.lt⟩
end Go.Proofs.YtangalkbjochjaaGreatDoor
end
