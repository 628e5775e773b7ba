import Derived.Test.YtangalkbjochjaaGreatDoorJ00Bits
import Derived.Deep.DeepCutAuto
import Derived.Test.YtangalkbjochjaaGreatDoorJ06CellCon
import Derived.StillTailTactics
import Derived.Test.YtangalkbjochjaaGreatDoorJ02Seq

/-! J13BodyOps: BodyOps, BoxOps1, BoxOps2, BodyCon. -/

section
/-
  Package body: its functions but Check.
-/
namespace Go.Proofs.YtangalkbjochjaaGreatDoor
open Go.RowKit Go.Lib

abbrev Bab1 (n q : Int) : Prop := ∀ w, Calls Tryz.prog 82 #[.int .i32 n] w fun e w' => e = .returned (.int .i32 q) ∧ w = w'
abbrev Mov (k r ax ay m o px py vx vy dx dy X Y : Int) : Prop := ∀ w, Calls Tryz.prog 126 #[.agg #[.int .u32 k, .int .i32 r, .int .i32 ax, .int .i32 ay, .int .i32 m, .int .i32 o, .int .i32 px, .int .i32 py, .int .i32 vx, .int .i32 vy], .agg #[.int .i32 dx, .int .i32 dy]] w fun e w' => e = .returned (.agg #[.int .u32 k, .int .i32 r, .int .i32 ax, .int .i32 ay, .int .i32 m, .int .i32 o, .int .i32 X, .int .i32 Y, .int .i32 vx, .int .i32 vy]) ∧ Grown w w'
abbrev Ext (k r ax ay m o px py vx vy x y : Int) : Prop := ∀ w, Calls Tryz.prog 62 #[.agg #[.int .u32 k, .int .i32 r, .int .i32 ax, .int .i32 ay, .int .i32 m, .int .i32 o, .int .i32 px, .int .i32 py, .int .i32 vx, .int .i32 vy]] w fun e w' => e = .returned (.tuple #[.int .i32 x, .int .i32 y]) ∧ Grown w w'
abbrev End (k r ax ay m o px py vx vy x y X Y : Int) : Prop := ∀ w, Calls Tryz.prog 93 #[.agg #[.int .u32 k, .int .i32 r, .int .i32 ax, .int .i32 ay, .int .i32 m, .int .i32 o, .int .i32 px, .int .i32 py, .int .i32 vx, .int .i32 vy]] w fun e w' => e = .returned (.tuple #[.agg #[.int .i32 x, .int .i32 y], .agg #[.int .i32 X, .int .i32 Y]]) ∧ Grown w w'

theorem bab1 {n q : Int} (h1 : -2147483648 < n) (h2 : n < 2147483648) (hq : max n (-n) = q) : Bab1 n q := fun w => by
  have e1 : wrap32 (-n) = -n := by unfold wrap32; omega
  have e2 : IntKind.i32.wrap (-n) = -n := by rw [IntKind.wrap_i32]; omega
  rw [← hq]
  clear hq
  go_enter Tryz.func82, Tryz.ntmps82
  go_wp2
  go_ret
  exact ⟨rfl, rfl⟩
set_option maxHeartbeats 1000000 in
theorem mov (k r ax ay m o px py vx vy dx dy X Y : Int) (hX : wrap32 (px + dx) = X) (hY : wrap32 (py + dy) = Y) : Mov k r ax ay m o px py vx vy dx dy X Y := fun w => by
  have e1 : IntKind.i32.wrap (px + dx) = X := by rw [← hX, IntKind.wrap_i32]; unfold wrap32; rfl
  have e2 : IntKind.i32.wrap (py + dy) = Y := by rw [← hY, IntKind.wrap_i32]; unfold wrap32; rfl
  go_enter Tryz.func126, Tryz.ntmps126
  go_wp2
  exact bodyPost_ret (v := .agg #[.int .u32 k, .int .i32 r, .int .i32 ax, .int .i32 ay, .int .i32 m, .int .i32 o, .int .i32 X, .int .i32 Y, .int .i32 vx, .int .i32 vy]) (by simp [results, Tryz.results126, go_sem]) rfl ⟨rfl, (((Grown.refl _).alloc _ _).alloc _ _).alloc _ _⟩
set_option maxHeartbeats 1000000 in
theorem ext_of (k r ax ay m o px py vx vy ux uy x y : Int) (C1 : Hid (Bab1 ax ux)) (C2 : Hid (Bab1 ay uy)) (hx : wrap32 (ux + r) = x) (hy : wrap32 (uy + r) = y) : Ext k r ax ay m o px py vx vy x y := fun w => by
  have e1 : IntKind.i32.wrap (ux + r) = x := by rw [← hx, IntKind.wrap_i32]; unfold wrap32; rfl
  have e2 : IntKind.i32.wrap (uy + r) = y := by rw [← hy, IntKind.wrap_i32]; unfold wrap32; rfl
  go_enter Tryz.func62, Tryz.ntmps62
  go_wp2_with fail
  go_region_held3 (fun w' => w'.cell? ⟨w.heap.size, 1, none⟩ = some (.int .i32 r) ∧ w'.cell? ⟨w.heap.size, 2, none⟩ = some (.int .i32 ax) ∧ w'.cell? ⟨w.heap.size, 3, none⟩ = some (.int .i32 ay) ∧ Grown w w')
    (first
      | (with_reducible assumption)
      | exact ⟨by rw [World.cell?_drew, World.cell?_alloc_at _ _ _ _ rfl]; rfl, by rw [World.cell?_drew, World.cell?_alloc_at _ _ _ _ rfl]; rfl, by rw [World.cell?_drew, World.cell?_alloc_at _ _ _ _ rfl]; rfl, ((Grown.refl _).alloc _ _).drew⟩)
    (first
      | ((with_reducible refine (C1.out _).mono ?_); rintro e w' ⟨rfl, rfl⟩)
      | ((with_reducible refine (C2.out _).mono ?_); rintro e w' ⟨rfl, rfl⟩))
  go_wp2_with fail
  go_ret2
  exact ⟨rfl, by go_split_ands; assumption⟩
set_option maxRecDepth 100000 in
set_option maxHeartbeats 2000000 in
theorem end_of (k r ax ay m o px py vx vy nx ny x y X Y : Int) (h1 : wrap32 (-ax) = nx) (h2 : wrap32 (-ay) = ny) (C1 : Hid (Mov k r ax ay m o px py vx vy nx ny x y)) (C2 : Hid (Mov k r ax ay m o px py vx vy ax ay X Y)) : End k r ax ay m o px py vx vy x y X Y := fun w => by
  have e1 : IntKind.i32.wrap (-ax) = nx := by rw [← h1, IntKind.wrap_i32]; unfold wrap32; rfl
  have e2 : IntKind.i32.wrap (-ay) = ny := by rw [← h2, IntKind.wrap_i32]; unfold wrap32; rfl
  have f1 : ∀ w, (Instr.field 46 (.agg #[.int .u32 k, .int .i32 r, .int .i32 ax, .int .i32 ay, .int .i32 m, .int .i32 o, .int .i32 x, .int .i32 y, .int .i32 vx, .int .i32 vy]) 5).run Tryz.prog w = .ok (.agg #[.int .i32 x, .int .i32 y]) w := fun _ => rfl
  have f2 : ∀ w, (Instr.field 46 (.agg #[.int .u32 k, .int .i32 r, .int .i32 ax, .int .i32 ay, .int .i32 m, .int .i32 o, .int .i32 X, .int .i32 Y, .int .i32 vx, .int .i32 vy]) 5).run Tryz.prog w = .ok (.agg #[.int .i32 X, .int .i32 Y]) w := fun _ => rfl
  go_enter Tryz.func93, Tryz.ntmps93
  go_wp2_with fail
  go_region_held3 (fun w' => w'.cell? ⟨w.heap.size, 0, none⟩ = some (.int .u32 k) ∧ w'.cell? ⟨w.heap.size, 1, none⟩ = some (.int .i32 r) ∧ w'.cell? ⟨w.heap.size, 2, none⟩ = some (.int .i32 ax) ∧ w'.cell? ⟨w.heap.size, 3, none⟩ = some (.int .i32 ay) ∧ w'.cell? ⟨w.heap.size, 4, none⟩ = some (.int .i32 m) ∧ w'.cell? ⟨w.heap.size, 5, none⟩ = some (.int .i32 o) ∧ w'.cell? ⟨w.heap.size, 6, none⟩ = some (.int .i32 px) ∧ w'.cell? ⟨w.heap.size, 7, none⟩ = some (.int .i32 py) ∧ w'.cell? ⟨w.heap.size, 8, none⟩ = some (.int .i32 vx) ∧ w'.cell? ⟨w.heap.size, 9, none⟩ = some (.int .i32 vy) ∧ w'.cell? ⟨w.heap.size + 1 + 1 + 1, 0, none⟩ = some (.int .i32 nx) ∧ w'.cell? ⟨w.heap.size + 1 + 1 + 1, 1, none⟩ = some (.int .i32 ny) ∧ Grown w w')
    (first
      | (with_reducible assumption)
      | exact ⟨by (repeat (first | rw [World.cell?_drew] | rw [World.cell?_alloc_past _ _ _ (by first | (simp; done) | (simp; omega))])); rw [World.cell?_alloc_at _ _ _ _ (by simp)]; rfl, by (repeat (first | rw [World.cell?_drew] | rw [World.cell?_alloc_past _ _ _ (by first | (simp; done) | (simp; omega))])); rw [World.cell?_alloc_at _ _ _ _ (by simp)]; rfl, by (repeat (first | rw [World.cell?_drew] | rw [World.cell?_alloc_past _ _ _ (by first | (simp; done) | (simp; omega))])); rw [World.cell?_alloc_at _ _ _ _ (by simp)]; rfl, by (repeat (first | rw [World.cell?_drew] | rw [World.cell?_alloc_past _ _ _ (by first | (simp; done) | (simp; omega))])); rw [World.cell?_alloc_at _ _ _ _ (by simp)]; rfl, by (repeat (first | rw [World.cell?_drew] | rw [World.cell?_alloc_past _ _ _ (by first | (simp; done) | (simp; omega))])); rw [World.cell?_alloc_at _ _ _ _ (by simp)]; rfl, by (repeat (first | rw [World.cell?_drew] | rw [World.cell?_alloc_past _ _ _ (by first | (simp; done) | (simp; omega))])); rw [World.cell?_alloc_at _ _ _ _ (by simp)]; rfl, by (repeat (first | rw [World.cell?_drew] | rw [World.cell?_alloc_past _ _ _ (by first | (simp; done) | (simp; omega))])); rw [World.cell?_alloc_at _ _ _ _ (by simp)]; rfl, by (repeat (first | rw [World.cell?_drew] | rw [World.cell?_alloc_past _ _ _ (by first | (simp; done) | (simp; omega))])); rw [World.cell?_alloc_at _ _ _ _ (by simp)]; rfl, by (repeat (first | rw [World.cell?_drew] | rw [World.cell?_alloc_past _ _ _ (by first | (simp; done) | (simp; omega))])); rw [World.cell?_alloc_at _ _ _ _ (by simp)]; rfl, by (repeat (first | rw [World.cell?_drew] | rw [World.cell?_alloc_past _ _ _ (by first | (simp; done) | (simp; omega))])); rw [World.cell?_alloc_at _ _ _ _ (by simp)]; rfl, by (repeat (first | rw [World.cell?_drew] | rw [World.cell?_alloc_past _ _ _ (by first | (simp; done) | (simp; omega))])); rw [World.cell?_alloc_at _ _ _ _ (by simp)]; rfl, by (repeat (first | rw [World.cell?_drew] | rw [World.cell?_alloc_past _ _ _ (by first | (simp; done) | (simp; omega))])); rw [World.cell?_alloc_at _ _ _ _ (by simp)]; rfl, ((((((Grown.refl _).alloc _ _).alloc _ _).alloc _ _).alloc _ _)).drew⟩
      | (go_split_ands; exact ⟨kept_cell g (by assumption), kept_cell g (by assumption), kept_cell g (by assumption), kept_cell g (by assumption), kept_cell g (by assumption), kept_cell g (by assumption), kept_cell g (by assumption), kept_cell g (by assumption), kept_cell g (by assumption), kept_cell g (by assumption), kept_cell g (by assumption), kept_cell g (by assumption), grown_trans (by assumption) g⟩)
      | (go_split_ands; exact ⟨setc_far (setc_far (by assumption) (by first | (simp; done) | (simp; omega))) (by first | (simp; done) | (simp; omega)), setc_far (setc_far (by assumption) (by first | (simp; done) | (simp; omega))) (by first | (simp; done) | (simp; omega)), setc_far (setc_far (by assumption) (by first | (simp; done) | (simp; omega))) (by first | (simp; done) | (simp; omega)), setc_far (setc_far (by assumption) (by first | (simp; done) | (simp; omega))) (by first | (simp; done) | (simp; omega)), setc_far (setc_far (by assumption) (by first | (simp; done) | (simp; omega))) (by first | (simp; done) | (simp; omega)), setc_far (setc_far (by assumption) (by first | (simp; done) | (simp; omega))) (by first | (simp; done) | (simp; omega)), setc_far (setc_far (by assumption) (by first | (simp; done) | (simp; omega))) (by first | (simp; done) | (simp; omega)), setc_far (setc_far (by assumption) (by first | (simp; done) | (simp; omega))) (by first | (simp; done) | (simp; omega)), setc_far (setc_far (by assumption) (by first | (simp; done) | (simp; omega))) (by first | (simp; done) | (simp; omega)), setc_far (setc_far (by assumption) (by first | (simp; done) | (simp; omega))) (by first | (simp; done) | (simp; omega)), setc_far (setc_far (by assumption) (by first | (simp; done) | (simp; omega))) (by first | (simp; done) | (simp; omega)), setc_far (setc_far (by assumption) (by first | (simp; done) | (simp; omega))) (by first | (simp; done) | (simp; omega)), ((by assumption : Grown w _).setCell (by first | (simp; done) | (simp; omega)) _).setCell (by first | (simp; done) | (simp; omega)) _⟩))
    (first
      | ((with_reducible refine (C1.out _).mono ?_); rintro e w1 ⟨rfl, g⟩; have i0 := kept_cell g (b := w.heap.size + 1) (o := 0) (v := .int .i32 0) (by first | assumption | ((repeat (first | rw [World.cell?_drew] | rw [World.cell?_alloc_past _ _ _ (by first | (simp; done) | (simp; omega))])); rw [World.cell?_alloc_at _ _ _ _ (by simp)]; rfl)); have i1 := kept_cell g (b := w.heap.size + 1) (o := 1) (v := .int .i32 0) (by first | assumption | ((repeat (first | rw [World.cell?_drew] | rw [World.cell?_alloc_past _ _ _ (by first | (simp; done) | (simp; omega))])); rw [World.cell?_alloc_at _ _ _ _ (by simp)]; rfl)); have i2 := kept_cell g (b := w.heap.size + 1 + 1) (o := 0) (v := .int .i32 0) (by first | assumption | ((repeat (first | rw [World.cell?_drew] | rw [World.cell?_alloc_past _ _ _ (by first | (simp; done) | (simp; omega))])); rw [World.cell?_alloc_at _ _ _ _ (by simp)]; rfl)); have i3 := kept_cell g (b := w.heap.size + 1 + 1) (o := 1) (v := .int .i32 0) (by first | assumption | ((repeat (first | rw [World.cell?_drew] | rw [World.cell?_alloc_past _ _ _ (by first | (simp; done) | (simp; omega))])); rw [World.cell?_alloc_at _ _ _ _ (by simp)]; rfl)); have gf := (gcell g).2.1)
      | ((with_reducible refine (C2.out _).mono ?_); rintro e w1 ⟨rfl, g⟩; have i0 := kept_cell g (b := w.heap.size + 1) (o := 0) (v := .int .i32 0) (by first | assumption | ((repeat (first | rw [World.cell?_drew] | rw [World.cell?_alloc_past _ _ _ (by first | (simp; done) | (simp; omega))])); rw [World.cell?_alloc_at _ _ _ _ (by simp)]; rfl)); have i1 := kept_cell g (b := w.heap.size + 1) (o := 1) (v := .int .i32 0) (by first | assumption | ((repeat (first | rw [World.cell?_drew] | rw [World.cell?_alloc_past _ _ _ (by first | (simp; done) | (simp; omega))])); rw [World.cell?_alloc_at _ _ _ _ (by simp)]; rfl)); have i2 := kept_cell g (b := w.heap.size + 1 + 1) (o := 0) (v := .int .i32 0) (by first | assumption | ((repeat (first | rw [World.cell?_drew] | rw [World.cell?_alloc_past _ _ _ (by first | (simp; done) | (simp; omega))])); rw [World.cell?_alloc_at _ _ _ _ (by simp)]; rfl)); have i3 := kept_cell g (b := w.heap.size + 1 + 1) (o := 1) (v := .int .i32 0) (by first | assumption | ((repeat (first | rw [World.cell?_drew] | rw [World.cell?_alloc_past _ _ _ (by first | (simp; done) | (simp; omega))])); rw [World.cell?_alloc_at _ _ _ _ (by simp)]; rfl)); have gf := (gcell g).2.1))
  all_goals go_wp2_with fail
  all_goals exact bodyPost_ret (v := .tuple #[.agg #[.int .i32 x, .int .i32 y], .agg #[.int .i32 X, .int .i32 Y]]) (by simp [results, Tryz.results93, go_sem, i0, i1, i2, i3]) rfl ⟨rfl, by go_split_ands; assumption⟩
end Go.Proofs.YtangalkbjochjaaGreatDoor
end

section
/-
  Package box: its functions.
-/
namespace Go.Proofs.YtangalkbjochjaaGreatDoor
open Go.RowKit Go.Lib

theorem ext_in8 (k r ax ay m o px py vx vy x y : Int) (h1 : -4194304 ≤ ax ∧ ax ≤ 4194304) (h2 : -4194304 ≤ ay ∧ ay ≤ 4194304) (h3 : 4096 ≤ r ∧ r ≤ 4194304) (hx : max ax (-ax) + r = x) (hy : max ay (-ay) + r = y) : Ext k r ax ay m o px py vx vy x y :=
  ext_of k r ax ay m o px py vx vy (max ax (-ax)) (max ay (-ay)) x y (Lib.hid (bab1 (by omega) (by omega) rfl)) (Lib.hid (bab1 (by omega) (by omega) rfl)) (by unfold wrap32; omega) (by unfold wrap32; omega)
theorem pem (xa ya za ta : Int) (z : Bool) (hz : empB xa ya za ta = z) : BEm xa ya za ta z := fun w => by
  by_cases g0 : za < xa
  · have d0 : decide (za < xa) = true := decide_eq_true g0
    obtain rfl : true = z := by rw [← hz]; unfold empB; exact (decide_eq_true (by omega)).symm
    clear hz
    go_enter Tryz.func49, Tryz.ntmps49
    go_wp2
    go_ret
    exact ⟨rfl, ((Grown.refl _).alloc _ _)⟩
  have d0 : decide (za < xa) = false := decide_eq_false g0
  by_cases g1 : ta < ya
  · have d1 : decide (ta < ya) = true := decide_eq_true g1
    obtain rfl : true = z := by rw [← hz]; unfold empB; exact (decide_eq_true (by omega)).symm
    clear hz
    go_enter Tryz.func49, Tryz.ntmps49
    go_wp2
    go_ret
    exact ⟨rfl, ((Grown.refl _).alloc _ _)⟩
  have d1 : decide (ta < ya) = false := decide_eq_false g1
  obtain rfl : false = z := by rw [← hz]; unfold empB; exact (decide_eq_false (by omega)).symm
  clear hz
  go_enter Tryz.func49, Tryz.ntmps49
  go_wp2
  go_ret
  exact ⟨rfl, ((Grown.refl _).alloc _ _)⟩
abbrev Pik (a b : Int) (g : Bool) (q : Int) : Prop := ∀ w, Calls Tryz.prog 83 #[.int .i32 a, .int .i32 b, .bool g] w fun e w' => e = .returned (.int .i32 q) ∧ w = w'
theorem pik_max {a b q : Int} (hq : max a b = q) : Pik a b true q := fun w => by
  go_enter Tryz.func83, Tryz.ntmps83
  go_wp2
  go_ret
  exact ⟨rfl, rfl⟩
theorem pik_min {a b q : Int} (hq : min a b = q) : Pik a b false q := fun w => by
  go_enter Tryz.func83, Tryz.ntmps83
  go_wp2
  go_ret
  exact ⟨rfl, rfl⟩
theorem pof (k r ax ay m o px py vx vy x y x0 y0 x1 y1 : Int) (E1 : Hid (Ext k r ax ay m o px py vx vy x y)) (h0 : wrap32 (px - x) = x0) (h1 : wrap32 (py - y) = y0) (h2 : wrap32 (px + x) = x1) (h3 : wrap32 (py + y) = y1) : BOf k r ax ay m o px py vx vy x0 y0 x1 y1 := fun w => by
  have f0 := wr32b h0
  have f1 := wr32b h1
  have f2 := wr32b h2
  have f3 := wr32b h3
  clear h0 h1 h2 h3
  go_enter Tryz.func48, Tryz.ntmps48
  go_wp2_with (first
    | ((with_reducible refine (E1.out _).mono ?_); rintro e w1 ⟨rfl, g1⟩
       have c0 := kept_cell g1 (b := w.heap.size) (o := 0) (v := .int .u32 k) (by (repeat (first | rw [World.cell?_drew] | rw [World.cell?_alloc_past _ _ _ (by first | (simp; done) | (simp; omega))])); rw [World.cell?_alloc_at _ _ _ _ (by simp)]; rfl)
       have c1 := kept_cell g1 (b := w.heap.size) (o := 1) (v := .int .i32 r) (by (repeat (first | rw [World.cell?_drew] | rw [World.cell?_alloc_past _ _ _ (by first | (simp; done) | (simp; omega))])); rw [World.cell?_alloc_at _ _ _ _ (by simp)]; rfl)
       have c2 := kept_cell g1 (b := w.heap.size) (o := 2) (v := .int .i32 ax) (by (repeat (first | rw [World.cell?_drew] | rw [World.cell?_alloc_past _ _ _ (by first | (simp; done) | (simp; omega))])); rw [World.cell?_alloc_at _ _ _ _ (by simp)]; rfl)
       have c3 := kept_cell g1 (b := w.heap.size) (o := 3) (v := .int .i32 ay) (by (repeat (first | rw [World.cell?_drew] | rw [World.cell?_alloc_past _ _ _ (by first | (simp; done) | (simp; omega))])); rw [World.cell?_alloc_at _ _ _ _ (by simp)]; rfl)
       have c4 := kept_cell g1 (b := w.heap.size) (o := 4) (v := .int .i32 m) (by (repeat (first | rw [World.cell?_drew] | rw [World.cell?_alloc_past _ _ _ (by first | (simp; done) | (simp; omega))])); rw [World.cell?_alloc_at _ _ _ _ (by simp)]; rfl)
       have c5 := kept_cell g1 (b := w.heap.size) (o := 5) (v := .int .i32 o) (by (repeat (first | rw [World.cell?_drew] | rw [World.cell?_alloc_past _ _ _ (by first | (simp; done) | (simp; omega))])); rw [World.cell?_alloc_at _ _ _ _ (by simp)]; rfl)
       have c6 := kept_cell g1 (b := w.heap.size) (o := 6) (v := .int .i32 px) (by (repeat (first | rw [World.cell?_drew] | rw [World.cell?_alloc_past _ _ _ (by first | (simp; done) | (simp; omega))])); rw [World.cell?_alloc_at _ _ _ _ (by simp)]; rfl)
       have c7 := kept_cell g1 (b := w.heap.size) (o := 7) (v := .int .i32 py) (by (repeat (first | rw [World.cell?_drew] | rw [World.cell?_alloc_past _ _ _ (by first | (simp; done) | (simp; omega))])); rw [World.cell?_alloc_at _ _ _ _ (by simp)]; rfl)
       have c8 := kept_cell g1 (b := w.heap.size) (o := 8) (v := .int .i32 vx) (by (repeat (first | rw [World.cell?_drew] | rw [World.cell?_alloc_past _ _ _ (by first | (simp; done) | (simp; omega))])); rw [World.cell?_alloc_at _ _ _ _ (by simp)]; rfl)
       have c9 := kept_cell g1 (b := w.heap.size) (o := 9) (v := .int .i32 vy) (by (repeat (first | rw [World.cell?_drew] | rw [World.cell?_alloc_past _ _ _ (by first | (simp; done) | (simp; omega))])); rw [World.cell?_alloc_at _ _ _ _ (by simp)]; rfl)
       have z0 := kept_cell g1 (b := w.heap.size + 1) (o := 0) (v := .int .i32 0) (by (repeat (first | rw [World.cell?_drew] | rw [World.cell?_alloc_past _ _ _ (by first | (simp; done) | (simp; omega))])); rw [World.cell?_alloc_at _ _ _ _ (by simp)]; rfl)
       have z1 := kept_cell g1 (b := w.heap.size + 1) (o := 1) (v := .int .i32 0) (by (repeat (first | rw [World.cell?_drew] | rw [World.cell?_alloc_past _ _ _ (by first | (simp; done) | (simp; omega))])); rw [World.cell?_alloc_at _ _ _ _ (by simp)]; rfl)
       have z2 := kept_cell g1 (b := w.heap.size + 1) (o := 2) (v := .int .i32 0) (by (repeat (first | rw [World.cell?_drew] | rw [World.cell?_alloc_past _ _ _ (by first | (simp; done) | (simp; omega))])); rw [World.cell?_alloc_at _ _ _ _ (by simp)]; rfl)
       have z3 := kept_cell g1 (b := w.heap.size + 1) (o := 3) (v := .int .i32 0) (by (repeat (first | rw [World.cell?_drew] | rw [World.cell?_alloc_past _ _ _ (by first | (simp; done) | (simp; omega))])); rw [World.cell?_alloc_at _ _ _ _ (by simp)]; rfl)
       have fz0 := kept_frozen g1 (b := w.heap.size + 1) (o := 0) (by (repeat (first | rw [World.frozen?_drew] | rw [World.frozen?_alloc_past _ _ _ (by first | (simp; done) | (simp; omega))])); rw [World.frozen?_alloc_at _ _ _ _ (by simp)])
       have fz1 := kept_frozen g1 (b := w.heap.size + 1) (o := 1) (by (repeat (first | rw [World.frozen?_drew] | rw [World.frozen?_alloc_past _ _ _ (by first | (simp; done) | (simp; omega))])); rw [World.frozen?_alloc_at _ _ _ _ (by simp)])
       have fz2 := kept_frozen g1 (b := w.heap.size + 1) (o := 2) (by (repeat (first | rw [World.frozen?_drew] | rw [World.frozen?_alloc_past _ _ _ (by first | (simp; done) | (simp; omega))])); rw [World.frozen?_alloc_at _ _ _ _ (by simp)])
       have fz3 := kept_frozen g1 (b := w.heap.size + 1) (o := 3) (by (repeat (first | rw [World.frozen?_drew] | rw [World.frozen?_alloc_past _ _ _ (by first | (simp; done) | (simp; omega))])); rw [World.frozen?_alloc_at _ _ _ _ (by simp)])
       have gg := grown_trans (((Grown.refl _).alloc _ _).alloc _ _) g1))
  exact bodyPost_ret (v := .agg #[.int .i32 x0, .int .i32 y0, .int .i32 x1, .int .i32 y1]) (by simp [results, Tryz.results48, go_sem, z0, z1, z2, z3]) rfl ⟨rfl, (((gg.setCell (by dsimp only; omega) _).setCell (by dsimp only; omega) _).setCell (by dsimp only; omega) _).setCell (by dsimp only; omega) _⟩
end Go.Proofs.YtangalkbjochjaaGreatDoor
end

section
/-
  Package box: combine, inner, outer, Meet, Union, Overlap.
-/
namespace Go.Proofs.YtangalkbjochjaaGreatDoor
open Go.RowKit Go.Lib

abbrev BCb (xa ya za ta xb yb zb tb : Int) (o : Bool) (x y z t : Int) : Prop := ∀ w, Calls Tryz.prog 63 #[.agg #[.int .i32 xa, .int .i32 ya, .int .i32 za, .int .i32 ta], .agg #[.int .i32 xb, .int .i32 yb, .int .i32 zb, .int .i32 tb], .bool o] w fun e w' => e = .returned (.agg #[.int .i32 x, .int .i32 y, .int .i32 z, .int .i32 t]) ∧ Grown w w'
set_option maxRecDepth 100000 in
set_option maxHeartbeats 2000000 in
theorem pcb_in {xa ya za ta xb yb zb tb x y z t : Int} (h0 : max xa xb = x) (h1 : max ya yb = y) (h2 : min za zb = z) (h3 : min ta tb = t) : BCb xa ya za ta xb yb zb tb false x y z t := fun w => by
  have L1 := Lib.hid (pik_max h0)
  have L2 := Lib.hid (pik_max h1)
  have L3 := Lib.hid (pik_min h2)
  have L4 := Lib.hid (pik_min h3)
  clear h0 h1 h2 h3
  go_enter Tryz.func63, Tryz.ntmps63
  go_wp2_with fail
  generalize hW : World.alloc (World.alloc (World.alloc w _) _) _ = W1
  have p0 : W1.cell? ⟨w.heap.size, 0, none⟩ = some (.int .i32 xa) := by rw [← hW]; (repeat (first | rw [World.cell?_drew] | rw [World.cell?_alloc_past _ _ _ (by first | (simp; done) | (simp; omega))])); rw [World.cell?_alloc_at _ _ _ _ (by simp)]; rfl
  have p1 : W1.cell? ⟨w.heap.size, 1, none⟩ = some (.int .i32 ya) := by rw [← hW]; (repeat (first | rw [World.cell?_drew] | rw [World.cell?_alloc_past _ _ _ (by first | (simp; done) | (simp; omega))])); rw [World.cell?_alloc_at _ _ _ _ (by simp)]; rfl
  have p2 : W1.cell? ⟨w.heap.size, 2, none⟩ = some (.int .i32 za) := by rw [← hW]; (repeat (first | rw [World.cell?_drew] | rw [World.cell?_alloc_past _ _ _ (by first | (simp; done) | (simp; omega))])); rw [World.cell?_alloc_at _ _ _ _ (by simp)]; rfl
  have p3 : W1.cell? ⟨w.heap.size, 3, none⟩ = some (.int .i32 ta) := by rw [← hW]; (repeat (first | rw [World.cell?_drew] | rw [World.cell?_alloc_past _ _ _ (by first | (simp; done) | (simp; omega))])); rw [World.cell?_alloc_at _ _ _ _ (by simp)]; rfl
  have q0 : W1.cell? ⟨w.heap.size + 1, 0, none⟩ = some (.int .i32 xb) := by rw [← hW]; (repeat (first | rw [World.cell?_drew] | rw [World.cell?_alloc_past _ _ _ (by first | (simp; done) | (simp; omega))])); rw [World.cell?_alloc_at _ _ _ _ (by simp)]; rfl
  have q1 : W1.cell? ⟨w.heap.size + 1, 1, none⟩ = some (.int .i32 yb) := by rw [← hW]; (repeat (first | rw [World.cell?_drew] | rw [World.cell?_alloc_past _ _ _ (by first | (simp; done) | (simp; omega))])); rw [World.cell?_alloc_at _ _ _ _ (by simp)]; rfl
  have q2 : W1.cell? ⟨w.heap.size + 1, 2, none⟩ = some (.int .i32 zb) := by rw [← hW]; (repeat (first | rw [World.cell?_drew] | rw [World.cell?_alloc_past _ _ _ (by first | (simp; done) | (simp; omega))])); rw [World.cell?_alloc_at _ _ _ _ (by simp)]; rfl
  have q3 : W1.cell? ⟨w.heap.size + 1, 3, none⟩ = some (.int .i32 tb) := by rw [← hW]; (repeat (first | rw [World.cell?_drew] | rw [World.cell?_alloc_past _ _ _ (by first | (simp; done) | (simp; omega))])); rw [World.cell?_alloc_at _ _ _ _ (by simp)]; rfl
  have z0 : W1.cell? ⟨w.heap.size + 1 + 1, 0, none⟩ = some (.int .i32 0) := by rw [← hW]; (repeat (first | rw [World.cell?_drew] | rw [World.cell?_alloc_past _ _ _ (by first | (simp; done) | (simp; omega))])); rw [World.cell?_alloc_at _ _ _ _ (by simp)]; rfl
  have z1 : W1.cell? ⟨w.heap.size + 1 + 1, 1, none⟩ = some (.int .i32 0) := by rw [← hW]; (repeat (first | rw [World.cell?_drew] | rw [World.cell?_alloc_past _ _ _ (by first | (simp; done) | (simp; omega))])); rw [World.cell?_alloc_at _ _ _ _ (by simp)]; rfl
  have z2 : W1.cell? ⟨w.heap.size + 1 + 1, 2, none⟩ = some (.int .i32 0) := by rw [← hW]; (repeat (first | rw [World.cell?_drew] | rw [World.cell?_alloc_past _ _ _ (by first | (simp; done) | (simp; omega))])); rw [World.cell?_alloc_at _ _ _ _ (by simp)]; rfl
  have z3 : W1.cell? ⟨w.heap.size + 1 + 1, 3, none⟩ = some (.int .i32 0) := by rw [← hW]; (repeat (first | rw [World.cell?_drew] | rw [World.cell?_alloc_past _ _ _ (by first | (simp; done) | (simp; omega))])); rw [World.cell?_alloc_at _ _ _ _ (by simp)]; rfl
  have fz0 : W1.frozen? ⟨w.heap.size + 1 + 1, 0, none⟩ = false := by rw [← hW, World.frozen?_alloc_at _ _ _ _ (by simp)]
  have fz1 : W1.frozen? ⟨w.heap.size + 1 + 1, 1, none⟩ = false := by rw [← hW, World.frozen?_alloc_at _ _ _ _ (by simp)]
  have fz2 : W1.frozen? ⟨w.heap.size + 1 + 1, 2, none⟩ = false := by rw [← hW, World.frozen?_alloc_at _ _ _ _ (by simp)]
  have fz3 : W1.frozen? ⟨w.heap.size + 1 + 1, 3, none⟩ = false := by rw [← hW, World.frozen?_alloc_at _ _ _ _ (by simp)]
  have gg : Grown w W1 := by rw [← hW]; exact ((((Grown.refl _).alloc _ _).alloc _ _).alloc _ _)
  clear hW
  refine wp_region_still_tail 27 (by kernel_rfl) (by kernel_rfl) ?_
  simp only [List.take_succ_cons, List.take_zero, List.drop_succ_cons, List.drop_zero]
  repeat still_step
  still_call ((L1.out _).mono fun _ _ h => ⟨h.1, h.2.symm⟩)
  repeat still_step
  still_call ((L2.out _).mono fun _ _ h => ⟨h.1, h.2.symm⟩)
  repeat still_step
  still_call ((L3.out _).mono fun _ _ h => ⟨h.1, h.2.symm⟩)
  repeat still_step
  still_call ((L4.out _).mono fun _ _ h => ⟨h.1, h.2.symm⟩)
  repeat still_step
  try refine wpStill_nil ?_
  go_wp2_with fail
  exact bodyPost_ret (v := .agg #[.int .i32 x, .int .i32 y, .int .i32 z, .int .i32 t]) (by simp [results, Tryz.results63, go_sem, z0, z1, z2, z3]) rfl ⟨rfl, (((gg.drew.setCell (by dsimp only; omega) _).setCell (by dsimp only; omega) _).setCell (by dsimp only; omega) _).setCell (by dsimp only; omega) _⟩
abbrev BIn (xa ya za ta xb yb zb tb x y z t : Int) : Prop := ∀ w, Calls Tryz.prog 50 #[.agg #[.int .i32 xa, .int .i32 ya, .int .i32 za, .int .i32 ta], .agg #[.int .i32 xb, .int .i32 yb, .int .i32 zb, .int .i32 tb]] w fun e w' => e = .returned (.agg #[.int .i32 x, .int .i32 y, .int .i32 z, .int .i32 t]) ∧ Grown w w'
set_option maxRecDepth 100000 in
set_option maxHeartbeats 1000000 in
theorem pbin {xa ya za ta xb yb zb tb x y z t : Int} (h0 : max xa xb = x) (h1 : max ya yb = y) (h2 : min za zb = z) (h3 : min ta tb = t) : BIn xa ya za ta xb yb zb tb x y z t := fun w => by
  have L := Lib.hid (pcb_in h0 h1 h2 h3)
  clear h0 h1 h2 h3
  go_enter Tryz.func50, Tryz.ntmps50
  go_wp2_with (first
    | ((with_reducible refine (L.out _).mono ?_); rintro e w1 ⟨rfl, g1⟩
       have z0 := kept_cell g1 (b := w.heap.size + 1 + 1) (o := 0) (v := .int .i32 0) (by (repeat (first | rw [World.cell?_drew] | rw [World.cell?_alloc_past _ _ _ (by first | (simp; done) | (simp; omega))])); rw [World.cell?_alloc_at _ _ _ _ (by simp)]; rfl)
       have z1 := kept_cell g1 (b := w.heap.size + 1 + 1) (o := 1) (v := .int .i32 0) (by (repeat (first | rw [World.cell?_drew] | rw [World.cell?_alloc_past _ _ _ (by first | (simp; done) | (simp; omega))])); rw [World.cell?_alloc_at _ _ _ _ (by simp)]; rfl)
       have z2 := kept_cell g1 (b := w.heap.size + 1 + 1) (o := 2) (v := .int .i32 0) (by (repeat (first | rw [World.cell?_drew] | rw [World.cell?_alloc_past _ _ _ (by first | (simp; done) | (simp; omega))])); rw [World.cell?_alloc_at _ _ _ _ (by simp)]; rfl)
       have z3 := kept_cell g1 (b := w.heap.size + 1 + 1) (o := 3) (v := .int .i32 0) (by (repeat (first | rw [World.cell?_drew] | rw [World.cell?_alloc_past _ _ _ (by first | (simp; done) | (simp; omega))])); rw [World.cell?_alloc_at _ _ _ _ (by simp)]; rfl)
       have fz0 := kept_frozen g1 (b := w.heap.size + 1 + 1) (o := 0) (by (repeat (first | rw [World.frozen?_drew] | rw [World.frozen?_alloc_past _ _ _ (by first | (simp; done) | (simp; omega))])); rw [World.frozen?_alloc_at _ _ _ _ (by simp)])
       have fz1 := kept_frozen g1 (b := w.heap.size + 1 + 1) (o := 1) (by (repeat (first | rw [World.frozen?_drew] | rw [World.frozen?_alloc_past _ _ _ (by first | (simp; done) | (simp; omega))])); rw [World.frozen?_alloc_at _ _ _ _ (by simp)])
       have fz2 := kept_frozen g1 (b := w.heap.size + 1 + 1) (o := 2) (by (repeat (first | rw [World.frozen?_drew] | rw [World.frozen?_alloc_past _ _ _ (by first | (simp; done) | (simp; omega))])); rw [World.frozen?_alloc_at _ _ _ _ (by simp)])
       have fz3 := kept_frozen g1 (b := w.heap.size + 1 + 1) (o := 3) (by (repeat (first | rw [World.frozen?_drew] | rw [World.frozen?_alloc_past _ _ _ (by first | (simp; done) | (simp; omega))])); rw [World.frozen?_alloc_at _ _ _ _ (by simp)])
       have gg := grown_trans ((((Grown.refl _).alloc _ _).alloc _ _).alloc _ _) g1))
  exact bodyPost_ret (v := .agg #[.int .i32 x, .int .i32 y, .int .i32 z, .int .i32 t]) (by simp [results, Tryz.results50, go_sem, z0, z1, z2, z3]) rfl ⟨rfl, (((gg.setCell (by dsimp only; omega) _).setCell (by dsimp only; omega) _).setCell (by dsimp only; omega) _).setCell (by dsimp only; omega) _⟩
theorem pov (xa ya za ta xb yb zb tb : Int) (q : Bool) (hq : ovlB xa ya za ta xb yb zb tb = q) : BOv xa ya za ta xb yb zb tb q := fun w => by
  have M1 := Lib.hid (pbin (rfl : max xa xb = _) (rfl : max ya yb = _) (rfl : min za zb = _) (rfl : min ta tb = _))
  have E1 : Hid (BEm (max xa xb) (max ya yb) (min za zb) (min ta tb) (!q)) := Lib.hid (by
    refine pem _ _ _ _ _ ?_
    subst hq
    unfold empB ovlB
    by_cases h : min za zb < max xa xb ∨ min ta tb < max ya yb
    · rw [decide_eq_true h, decide_eq_false (by omega)]; rfl
    · rw [decide_eq_false h, decide_eq_true (by omega)]; rfl)
  clear hq
  generalize max xa xb = u0 at M1 E1
  generalize max ya yb = u1 at M1 E1
  generalize min za zb = u2 at M1 E1
  generalize min ta tb = u3 at M1 E1
  go_enter Tryz.func35, Tryz.ntmps35
  go_wp2_with (first
    | ((with_reducible refine (M1.out _).mono ?_); rintro e w1 ⟨rfl, g1⟩
       have gg := grown_trans (((Grown.refl _).alloc _ _).alloc _ _) g1)
    | ((with_reducible refine (E1.out _).mono ?_); rintro e w2 ⟨rfl, g2⟩
       replace gg := grown_trans gg g2))
  go_ret
  exact ⟨by simp, gg⟩
end Go.Proofs.YtangalkbjochjaaGreatDoor
end

section
/-
  Package body: the contract of Check, and the fixed examples of its laws.
-/
namespace Go.Proofs.YtangalkbjochjaaGreatDoor
open Go.RowKit Go.Lib

theorem fst_if {P1 P2 P3 P4 P5 P6 P7 P8 P9 P10 P11 P12 P13 P14 P15 P16 P17 P18 : Prop} [Decidable P1] [Decidable P2] [Decidable P3] [Decidable P4] [Decidable P5] [Decidable P6] [Decidable P7] [Decidable P8] [Decidable P9] [Decidable P10] [Decidable P11] [Decidable P12] [Decidable P13] [Decidable P14] [Decidable P15] [Decidable P16] [Decidable P17] [Decidable P18] :
    fst6 (decide P1 && decide P2) ((decide P3 && decide P4) && (decide P5 && decide P6)) (decide P7 && decide P8) (decide P9 && decide P10) ((decide P11 && decide P12) && (decide P13 && decide P14)) ((decide P15 && decide P16) && (decide P17 && decide P18)) =
    if P1 ∧ P2 then if (P3 ∧ P4) ∧ (P5 ∧ P6) then if P7 ∧ P8 then if P9 ∧ P10 then if (P11 ∧ P12) ∧ (P13 ∧ P14) then if (P15 ∧ P16) ∧ (P17 ∧ P18) then 0 else 9 else 8 else 7 else 6 else 5 else 4 := by
  unfold fst6
  by_cases h1 : P1 ∧ P2
  · rw [if_pos h1, decide_eq_true h1.1, decide_eq_true h1.2]
    by_cases h2 : (P3 ∧ P4) ∧ (P5 ∧ P6)
    · rw [if_pos h2, decide_eq_true h2.1.1, decide_eq_true h2.1.2, decide_eq_true h2.2.1, decide_eq_true h2.2.2]
      by_cases h3 : P7 ∧ P8
      · rw [if_pos h3, decide_eq_true h3.1, decide_eq_true h3.2]
        by_cases h4 : P9 ∧ P10
        · rw [if_pos h4, decide_eq_true h4.1, decide_eq_true h4.2]
          by_cases h5 : (P11 ∧ P12) ∧ (P13 ∧ P14)
          · rw [if_pos h5, decide_eq_true h5.1.1, decide_eq_true h5.1.2, decide_eq_true h5.2.1, decide_eq_true h5.2.2]
            by_cases h6 : (P15 ∧ P16) ∧ (P17 ∧ P18)
            · rw [if_pos h6, decide_eq_true h6.1.1, decide_eq_true h6.1.2, decide_eq_true h6.2.1, decide_eq_true h6.2.2]; rfl
            · rw [if_neg h6, ← Bool.decide_and, ← Bool.decide_and, ← Bool.decide_and, decide_eq_false h6]; rfl
          · rw [if_neg h5, ← Bool.decide_and, ← Bool.decide_and (p := P13), ← Bool.decide_and (p := P11 ∧ P12), decide_eq_false h5]; rfl
        · rw [if_neg h4, ← Bool.decide_and, decide_eq_false h4]; rfl
      · rw [if_neg h3, ← Bool.decide_and, decide_eq_false h3]; rfl
    · rw [if_neg h2, ← Bool.decide_and, ← Bool.decide_and (p := P5), ← Bool.decide_and (p := P3 ∧ P4), decide_eq_false h2]; rfl
  · rw [if_neg h1, ← Bool.decide_and, decide_eq_false h1]; rfl

theorem ext_in (k r ax ay m o px py vx vy x y : Int) (h1 : -4194304 ≤ ax ∧ ax ≤ 4194304) (h2 : -4194304 ≤ ay ∧ ay ≤ 4194304) (h3 : 4096 ≤ r ∧ r ≤ 4194304) (hx : max ax (-ax) + r = x) (hy : max ay (-ay) + r = y) : Ext k r ax ay m o px py vx vy x y :=
  ext_of k r ax ay m o px py vx vy (max ax (-ax)) (max ay (-ay)) x y (Lib.hid (bab1 (by omega) (by omega) rfl)) (Lib.hid (bab1 (by omega) (by omega) rfl)) (by unfold wrap32; omega) (by unfold wrap32; omega)
theorem end_in (k r ax ay m o px py vx vy x y X Y : Int) (h1 : -4194304 ≤ ax ∧ ax ≤ 4194304) (h2 : -4194304 ≤ ay ∧ ay ≤ 4194304) (hp : -2143289344 ≤ px ∧ px ≤ 2143289343) (hq : -2143289344 ≤ py ∧ py ≤ 2143289343)
    (hx : px - ax = x) (hy : py - ay = y) (hX : px + ax = X) (hY : py + ay = Y) : End k r ax ay m o px py vx vy x y X Y :=
  end_of k r ax ay m o px py vx vy (-ax) (-ay) x y X Y (by unfold wrap32; omega) (by unfold wrap32; omega) (Lib.hid (mov _ _ _ _ _ _ _ _ _ _ _ _ _ _ (by unfold wrap32; omega) (by unfold wrap32; omega))) (Lib.hid (mov _ _ _ _ _ _ _ _ _ _ _ _ _ _ (by unfold wrap32; omega) (by unfold wrap32; omega)))

end Go.Proofs.YtangalkbjochjaaGreatDoor
end
