import Derived.Test.YtaknmlohnifcdaaGreatDoorJ00MBits
import Derived.Deep.DeepCutAuto
set_option maxHeartbeats 2000000
set_option maxRecDepth 100000
namespace Go.Proofs.YtaknmlohnifcdaaGreatDoor
open Go.RowKit Go.Lib

abbrev Sta (k r ax ay m o px py vx vy : Int) (c : Bool) : Prop := ∀ w, Calls Tryz.prog 56 #[.agg #[.int .u32 k, .int .i32 r, .int .i32 ax, .int .i32 ay, .int .i32 m, .int .i32 o, .int .i32 px, .int .i32 py, .int .i32 vx, .int .i32 vy]] w fun e w' => e = .returned (.bool c) ∧ Grown w w'
abbrev Bab1 (n q : Int) : Prop := ∀ w, Calls Tryz.prog 137 #[.int .i32 n] w fun e w' => e = .returned (.int .i32 q) ∧ w = w'
abbrev Mov (k r ax ay m o px py vx vy dx dy X Y : Int) : Prop := ∀ w, Calls Tryz.prog 186 #[.agg #[.int .u32 k, .int .i32 r, .int .i32 ax, .int .i32 ay, .int .i32 m, .int .i32 o, .int .i32 px, .int .i32 py, .int .i32 vx, .int .i32 vy], .agg #[.int .i32 dx, .int .i32 dy]] w fun e w' => e = .returned (.agg #[.int .u32 k, .int .i32 r, .int .i32 ax, .int .i32 ay, .int .i32 m, .int .i32 o, .int .i32 X, .int .i32 Y, .int .i32 vx, .int .i32 vy]) ∧ Grown w w'
abbrev Ext (k r ax ay m o px py vx vy x y : Int) : Prop := ∀ w, Calls Tryz.prog 108 #[.agg #[.int .u32 k, .int .i32 r, .int .i32 ax, .int .i32 ay, .int .i32 m, .int .i32 o, .int .i32 px, .int .i32 py, .int .i32 vx, .int .i32 vy]] w fun e w' => e = .returned (.tuple #[.int .i32 x, .int .i32 y]) ∧ Grown w w'
abbrev End (k r ax ay m o px py vx vy x y X Y : Int) : Prop := ∀ w, Calls Tryz.prog 148 #[.agg #[.int .u32 k, .int .i32 r, .int .i32 ax, .int .i32 ay, .int .i32 m, .int .i32 o, .int .i32 px, .int .i32 py, .int .i32 vx, .int .i32 vy]] w fun e w' => e = .returned (.tuple #[.agg #[.int .i32 x, .int .i32 y], .agg #[.int .i32 X, .int .i32 Y]]) ∧ Grown w w'

theorem sta (k r ax ay m o px py vx vy : Int) (c : Bool) (hc : decide (m = 0) = c) : Sta k r ax ay m o px py vx vy c := fun w => by
 by_cases h1 : m = 0
 ·obtain rfl : true = c := by simpa [h1] using hc
  subst h1
  go_enter Tryz.func56, Tryz.ntmps56
  go_wp2
  go_ret
  exact ⟨rfl, (Grown.refl _).alloc _ _⟩
 ·obtain rfl : false = c := by simpa [h1] using hc
  have h3 : (m == 0) = false := beq_eq_false_iff_ne.2 h1
  go_enter Tryz.func56, Tryz.ntmps56
  go_wp2
  go_ret
  exact ⟨rfl, (Grown.refl _).alloc _ _⟩
theorem bab1 {n q : Int} (h1 : -2147483648 < n) (h2 : n < 2147483648) (hq : max n (-n) = q) : Bab1 n q := fun w => by
 have e1 : wrap32 (-n) = -n := by unfold wrap32; omega
 have e2 : IntKind.i32.wrap (-n) = -n := by rw [IntKind.wrap_i32]; omega
 rw [← hq]
 clear hq
 go_enter Tryz.func137, Tryz.ntmps137
 go_wp2
 go_ret
 exact ⟨rfl, rfl⟩
theorem mov (k r ax ay m o px py vx vy dx dy X Y : Int) (hX : wrap32 (px + dx) = X) (hY : wrap32 (py + dy) = Y) : Mov k r ax ay m o px py vx vy dx dy X Y := fun w => by
 have e1 : IntKind.i32.wrap (px + dx) = X := by rw [← hX, IntKind.wrap_i32]; unfold wrap32; rfl
 have e2 : IntKind.i32.wrap (py + dy) = Y := by rw [← hY, IntKind.wrap_i32]; unfold wrap32; rfl
 go_enter Tryz.func186, Tryz.ntmps186
 go_wp2
 exact bodyPost_ret (v := .agg #[.int .u32 k, .int .i32 r, .int .i32 ax, .int .i32 ay, .int .i32 m, .int .i32 o, .int .i32 X, .int .i32 Y, .int .i32 vx, .int .i32 vy]) (by simp [results, Tryz.results186, go_sem]) rfl ⟨rfl, (((Grown.refl _).alloc _ _).alloc _ _).alloc _ _⟩
theorem ext_of (k r ax ay m o px py vx vy ux uy x y : Int) (C1 : Hid (Bab1 ax ux)) (C2 : Hid (Bab1 ay uy)) (hx : wrap32 (ux + r) = x) (hy : wrap32 (uy + r) = y) : Ext k r ax ay m o px py vx vy x y := fun w => by
 have e1 : IntKind.i32.wrap (ux + r) = x := by rw [← hx, IntKind.wrap_i32]; unfold wrap32; rfl
 have e2 : IntKind.i32.wrap (uy + r) = y := by rw [← hy, IntKind.wrap_i32]; unfold wrap32; rfl
 go_enter Tryz.func108, Tryz.ntmps108
 go_wp2_with fail
 go_region_held3 (fun w' => w'.cell? ⟨w.heap.size, 1, none⟩ = some (.int .i32 r) ∧ w'.cell? ⟨w.heap.size, 2, none⟩ = some (.int .i32 ax) ∧ w'.cell? ⟨w.heap.size, 3, none⟩ = some (.int .i32 ay) ∧ Grown w w')
  (first
    | (with_reducible assumption)
    | exact ⟨by rw [World.cell?_drew, World.cell?_alloc_at _ _ _ _ rfl]; rfl, by rw [World.cell?_drew, World.cell?_alloc_at _ _ _ _ rfl]; rfl, by rw [World.cell?_drew, World.cell?_alloc_at _ _ _ _ rfl]; rfl, ((Grown.refl _).alloc _ _).drew⟩)
  (first
    | ((with_reducible refine (C1.out _).mono ?_); rintro e w' ⟨rfl, rfl⟩)
    | ((with_reducible refine (C2.out _).mono ?_); rintro e w' ⟨rfl, rfl⟩))
 go_wp2_with fail
 go_ret2
 exact ⟨rfl, by go_split_ands; assumption⟩
theorem end_of (k r ax ay m o px py vx vy nx ny x y X Y : Int) (h1 : wrap32 (-ax) = nx) (h2 : wrap32 (-ay) = ny) (C1 : Hid (Mov k r ax ay m o px py vx vy nx ny x y)) (C2 : Hid (Mov k r ax ay m o px py vx vy ax ay X Y)) : End k r ax ay m o px py vx vy x y X Y := fun w => by
 have e1 : IntKind.i32.wrap (-ax) = nx := by rw [← h1, IntKind.wrap_i32]; unfold wrap32; rfl
 have e2 : IntKind.i32.wrap (-ay) = ny := by rw [← h2, IntKind.wrap_i32]; unfold wrap32; rfl
 have f1 : ∀ w, (Instr.field 40 (.agg #[.int .u32 k, .int .i32 r, .int .i32 ax, .int .i32 ay, .int .i32 m, .int .i32 o, .int .i32 x, .int .i32 y, .int .i32 vx, .int .i32 vy]) 5).run Tryz.prog w = .ok (.agg #[.int .i32 x, .int .i32 y]) w := fun _ => rfl
 have f2 : ∀ w, (Instr.field 40 (.agg #[.int .u32 k, .int .i32 r, .int .i32 ax, .int .i32 ay, .int .i32 m, .int .i32 o, .int .i32 X, .int .i32 Y, .int .i32 vx, .int .i32 vy]) 5).run Tryz.prog w = .ok (.agg #[.int .i32 X, .int .i32 Y]) w := fun _ => rfl
 go_enter Tryz.func148, Tryz.ntmps148
 go_wp2_with fail
 go_region_held3 (fun w' => w'.cell? ⟨w.heap.size, 0, none⟩ = some (.int .u32 k) ∧ w'.cell? ⟨w.heap.size, 1, none⟩ = some (.int .i32 r) ∧ w'.cell? ⟨w.heap.size, 2, none⟩ = some (.int .i32 ax) ∧ w'.cell? ⟨w.heap.size, 3, none⟩ = some (.int .i32 ay) ∧ w'.cell? ⟨w.heap.size, 4, none⟩ = some (.int .i32 m) ∧ w'.cell? ⟨w.heap.size, 5, none⟩ = some (.int .i32 o) ∧ w'.cell? ⟨w.heap.size, 6, none⟩ = some (.int .i32 px) ∧ w'.cell? ⟨w.heap.size, 7, none⟩ = some (.int .i32 py) ∧ w'.cell? ⟨w.heap.size, 8, none⟩ = some (.int .i32 vx) ∧ w'.cell? ⟨w.heap.size, 9, none⟩ = some (.int .i32 vy) ∧ w'.cell? ⟨w.heap.size + 1 + 1 + 1, 0, none⟩ = some (.int .i32 nx) ∧ w'.cell? ⟨w.heap.size + 1 + 1 + 1, 1, none⟩ = some (.int .i32 ny) ∧ Grown w w')
  (first
    | (with_reducible assumption)
    | exact ⟨by (repeat (first | rw [World.cell?_drew] | rw [World.cell?_alloc_past _ _ _ (by first | (simp; done) | (simp; omega))])); rw [World.cell?_alloc_at _ _ _ _ (by simp)]; rfl, by (repeat (first | rw [World.cell?_drew] | rw [World.cell?_alloc_past _ _ _ (by first | (simp; done) | (simp; omega))])); rw [World.cell?_alloc_at _ _ _ _ (by simp)]; rfl, by (repeat (first | rw [World.cell?_drew] | rw [World.cell?_alloc_past _ _ _ (by first | (simp; done) | (simp; omega))])); rw [World.cell?_alloc_at _ _ _ _ (by simp)]; rfl, by (repeat (first | rw [World.cell?_drew] | rw [World.cell?_alloc_past _ _ _ (by first | (simp; done) | (simp; omega))])); rw [World.cell?_alloc_at _ _ _ _ (by simp)]; rfl, by (repeat (first | rw [World.cell?_drew] | rw [World.cell?_alloc_past _ _ _ (by first | (simp; done) | (simp; omega))])); rw [World.cell?_alloc_at _ _ _ _ (by simp)]; rfl, by (repeat (first | rw [World.cell?_drew] | rw [World.cell?_alloc_past _ _ _ (by first | (simp; done) | (simp; omega))])); rw [World.cell?_alloc_at _ _ _ _ (by simp)]; rfl, by (repeat (first | rw [World.cell?_drew] | rw [World.cell?_alloc_past _ _ _ (by first | (simp; done) | (simp; omega))])); rw [World.cell?_alloc_at _ _ _ _ (by simp)]; rfl, by (repeat (first | rw [World.cell?_drew] | rw [World.cell?_alloc_past _ _ _ (by first | (simp; done) | (simp; omega))])); rw [World.cell?_alloc_at _ _ _ _ (by simp)]; rfl, by (repeat (first | rw [World.cell?_drew] | rw [World.cell?_alloc_past _ _ _ (by first | (simp; done) | (simp; omega))])); rw [World.cell?_alloc_at _ _ _ _ (by simp)]; rfl, by (repeat (first | rw [World.cell?_drew] | rw [World.cell?_alloc_past _ _ _ (by first | (simp; done) | (simp; omega))])); rw [World.cell?_alloc_at _ _ _ _ (by simp)]; rfl, by (repeat (first | rw [World.cell?_drew] | rw [World.cell?_alloc_past _ _ _ (by first | (simp; done) | (simp; omega))])); rw [World.cell?_alloc_at _ _ _ _ (by simp)]; rfl, by (repeat (first | rw [World.cell?_drew] | rw [World.cell?_alloc_past _ _ _ (by first | (simp; done) | (simp; omega))])); rw [World.cell?_alloc_at _ _ _ _ (by simp)]; rfl, ((((((Grown.refl _).alloc _ _).alloc _ _).alloc _ _).alloc _ _)).drew⟩
    | (go_split_ands; exact ⟨kept_cell g (by assumption), kept_cell g (by assumption), kept_cell g (by assumption), kept_cell g (by assumption), kept_cell g (by assumption), kept_cell g (by assumption), kept_cell g (by assumption), kept_cell g (by assumption), kept_cell g (by assumption), kept_cell g (by assumption), kept_cell g (by assumption), kept_cell g (by assumption), grown_trans (by assumption) g⟩)
    | (go_split_ands; exact ⟨setc_far (setc_far (by assumption) (by first | (simp; done) | (simp; omega))) (by first | (simp; done) | (simp; omega)), setc_far (setc_far (by assumption) (by first | (simp; done) | (simp; omega))) (by first | (simp; done) | (simp; omega)), setc_far (setc_far (by assumption) (by first | (simp; done) | (simp; omega))) (by first | (simp; done) | (simp; omega)), setc_far (setc_far (by assumption) (by first | (simp; done) | (simp; omega))) (by first | (simp; done) | (simp; omega)), setc_far (setc_far (by assumption) (by first | (simp; done) | (simp; omega))) (by first | (simp; done) | (simp; omega)), setc_far (setc_far (by assumption) (by first | (simp; done) | (simp; omega))) (by first | (simp; done) | (simp; omega)), setc_far (setc_far (by assumption) (by first | (simp; done) | (simp; omega))) (by first | (simp; done) | (simp; omega)), setc_far (setc_far (by assumption) (by first | (simp; done) | (simp; omega))) (by first | (simp; done) | (simp; omega)), setc_far (setc_far (by assumption) (by first | (simp; done) | (simp; omega))) (by first | (simp; done) | (simp; omega)), setc_far (setc_far (by assumption) (by first | (simp; done) | (simp; omega))) (by first | (simp; done) | (simp; omega)), setc_far (setc_far (by assumption) (by first | (simp; done) | (simp; omega))) (by first | (simp; done) | (simp; omega)), setc_far (setc_far (by assumption) (by first | (simp; done) | (simp; omega))) (by first | (simp; done) | (simp; omega)), ((by assumption : Grown w _).setCell (by first | (simp; done) | (simp; omega)) _).setCell (by first | (simp; done) | (simp; omega)) _⟩))
  (first
    | ((with_reducible refine (C1.out _).mono ?_); rintro e w1 ⟨rfl, g⟩; have i0 := kept_cell g (b := w.heap.size + 1) (o := 0) (v := .int .i32 0) (by first | assumption | ((repeat (first | rw [World.cell?_drew] | rw [World.cell?_alloc_past _ _ _ (by first | (simp; done) | (simp; omega))])); rw [World.cell?_alloc_at _ _ _ _ (by simp)]; rfl)); have i1 := kept_cell g (b := w.heap.size + 1) (o := 1) (v := .int .i32 0) (by first | assumption | ((repeat (first | rw [World.cell?_drew] | rw [World.cell?_alloc_past _ _ _ (by first | (simp; done) | (simp; omega))])); rw [World.cell?_alloc_at _ _ _ _ (by simp)]; rfl)); have i2 := kept_cell g (b := w.heap.size + 1 + 1) (o := 0) (v := .int .i32 0) (by first | assumption | ((repeat (first | rw [World.cell?_drew] | rw [World.cell?_alloc_past _ _ _ (by first | (simp; done) | (simp; omega))])); rw [World.cell?_alloc_at _ _ _ _ (by simp)]; rfl)); have i3 := kept_cell g (b := w.heap.size + 1 + 1) (o := 1) (v := .int .i32 0) (by first | assumption | ((repeat (first | rw [World.cell?_drew] | rw [World.cell?_alloc_past _ _ _ (by first | (simp; done) | (simp; omega))])); rw [World.cell?_alloc_at _ _ _ _ (by simp)]; rfl)); have gf := (gcell g).2.1)
    | ((with_reducible refine (C2.out _).mono ?_); rintro e w1 ⟨rfl, g⟩; have i0 := kept_cell g (b := w.heap.size + 1) (o := 0) (v := .int .i32 0) (by first | assumption | ((repeat (first | rw [World.cell?_drew] | rw [World.cell?_alloc_past _ _ _ (by first | (simp; done) | (simp; omega))])); rw [World.cell?_alloc_at _ _ _ _ (by simp)]; rfl)); have i1 := kept_cell g (b := w.heap.size + 1) (o := 1) (v := .int .i32 0) (by first | assumption | ((repeat (first | rw [World.cell?_drew] | rw [World.cell?_alloc_past _ _ _ (by first | (simp; done) | (simp; omega))])); rw [World.cell?_alloc_at _ _ _ _ (by simp)]; rfl)); have i2 := kept_cell g (b := w.heap.size + 1 + 1) (o := 0) (v := .int .i32 0) (by first | assumption | ((repeat (first | rw [World.cell?_drew] | rw [World.cell?_alloc_past _ _ _ (by first | (simp; done) | (simp; omega))])); rw [World.cell?_alloc_at _ _ _ _ (by simp)]; rfl)); have i3 := kept_cell g (b := w.heap.size + 1 + 1) (o := 1) (v := .int .i32 0) (by first | assumption | ((repeat (first | rw [World.cell?_drew] | rw [World.cell?_alloc_past _ _ _ (by first | (simp; done) | (simp; omega))])); rw [World.cell?_alloc_at _ _ _ _ (by simp)]; rfl)); have gf := (gcell g).2.1))
 all_goals go_wp2_with fail
 all_goals exact bodyPost_ret (v := .tuple #[.agg #[.int .i32 x, .int .i32 y], .agg #[.int .i32 X, .int .i32 Y]]) (by simp [results, Tryz.results148, go_sem, i0, i1, i2, i3]) rfl ⟨rfl, by go_split_ands; assumption⟩
end Go.Proofs.YtaknmlohnifcdaaGreatDoor
