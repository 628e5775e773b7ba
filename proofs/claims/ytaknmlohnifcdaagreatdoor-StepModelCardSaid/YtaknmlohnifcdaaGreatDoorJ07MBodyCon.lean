import Derived.Test.YtaknmlohnifcdaaGreatDoorJ06MBodyFun
import Derived.Test.YtaknmlohnifcdaaGreatDoorMBodyOps
import Derived.Test.YtaknmlohnifcdaaGreatDoorJ02MSeq
import Derived.Deep.DeepCutAuto
import Derived.StillTailTactics
set_option maxHeartbeats 2000000
set_option maxRecDepth 100000
namespace Go.Proofs.YtaknmlohnifcdaaGreatDoor
open Go.RowKit Go.Lib
theorem end_in (k r ax ay m o px py vx vy x y X Y : Int) (h1 : -4194304 ≤ ax ∧ ax ≤ 4194304) (h2 : -4194304 ≤ ay ∧ ay ≤ 4194304) (hp : -2143289344 ≤ px ∧ px ≤ 2143289343) (hq : -2143289344 ≤ py ∧ py ≤ 2143289343)
 (hx : px - ax = x) (hy : py - ay = y) (hX : px + ax = X) (hY : py + ay = Y) : End k r ax ay m o px py vx vy x y X Y :=
 end_of k r ax ay m o px py vx vy (-ax) (-ay) x y X Y (by unfold wrap32; omega) (by unfold wrap32; omega) (Lib.hid (mov _ _ _ _ _ _ _ _ _ _ _ _ _ _ (by unfold wrap32; omega) (by unfold wrap32; omega))) (Lib.hid (mov _ _ _ _ _ _ _ _ _ _ _ _ _ _ (by unfold wrap32; omega) (by unfold wrap32; omega)))
theorem chk0 {r ax ay m o px py vx vy : Int} (h : chk r ax ay m o px py vx vy = 0) : (4096 ≤ r ∧ r ≤ 4194304) ∧ ((-4194304 ≤ ax ∧ ax ≤ 4194304) ∧ (-4194304 ≤ ay ∧ ay ≤ 4194304)) ∧ (0 ≤ m ∧ m ≤ 1048576) ∧ (0 ≤ o ∧ o ≤ 65536) ∧ ((-1073741824 ≤ px ∧ px ≤ 1073741824) ∧ (-1073741824 ≤ py ∧ py ≤ 1073741824)) ∧ ((-16777216 ≤ vx ∧ vx ≤ 16777216) ∧ (-16777216 ≤ vy ∧ vy ≤ 16777216)) := by
 unfold chk at h
 split at h
 ·split at h
  ·split at h
   ·split at h
    ·split at h
     ·split at h
      ·rename_i h1 h2 h3 h4 h5 h6
       exact ⟨h1, h2, h3, h4, h5, h6⟩
      ·omega
     ·omega
    ·omega
   ·omega
  ·omega
 ·omega
theorem chk_ok {r ax ay m o px py vx vy : Int} (h : (4096 ≤ r ∧ r ≤ 4194304) ∧ ((-4194304 ≤ ax ∧ ax ≤ 4194304) ∧ (-4194304 ≤ ay ∧ ay ≤ 4194304)) ∧ (0 ≤ m ∧ m ≤ 1048576) ∧ (0 ≤ o ∧ o ≤ 65536) ∧ ((-1073741824 ≤ px ∧ px ≤ 1073741824) ∧ (-1073741824 ≤ py ∧ py ≤ 1073741824)) ∧ ((-16777216 ≤ vx ∧ vx ≤ 16777216) ∧ (-16777216 ≤ vy ∧ vy ≤ 16777216))) : chk r ax ay m o px py vx vy = 0 := by
 obtain ⟨h1, h2, h3, h4, h5, h6⟩ := h
 unfold chk
 rw [if_pos h1, if_pos h2, if_pos h3, if_pos h4, if_pos h5, if_pos h6]
theorem ext_in8 (k r ax ay m o px py vx vy x y : Int) (h1 : -4194304 ≤ ax ∧ ax ≤ 4194304) (h2 : -4194304 ≤ ay ∧ ay ≤ 4194304) (h3 : 4096 ≤ r ∧ r ≤ 4194304) (hx : max ax (-ax) + r = x) (hy : max ay (-ay) + r = y) : Ext k r ax ay m o px py vx vy x y :=
 ext_of k r ax ay m o px py vx vy (max ax (-ax)) (max ay (-ay)) x y (Lib.hid (bab1 (by omega) (by omega) rfl)) (Lib.hid (bab1 (by omega) (by omega) rfl)) (by unfold wrap32; omega) (by unfold wrap32; omega)
theorem pem (xa ya za ta : Int) (z : Bool) (hz : empB xa ya za ta = z) : BEm xa ya za ta z := fun w => by
 by_cases g0 : za < xa
 ·have d0 : decide (za < xa) = true := decide_eq_true g0
  obtain rfl : true = z := by rw [← hz]; unfold empB; exact (decide_eq_true (by omega)).symm
  clear hz
  go_enter Tryz.func91, Tryz.ntmps91
  go_wp2
  go_ret
  exact ⟨rfl, ((Grown.refl _).alloc _ _)⟩
 have d0 : decide (za < xa) = false := decide_eq_false g0
 by_cases g1 : ta < ya
 ·have d1 : decide (ta < ya) = true := decide_eq_true g1
  obtain rfl : true = z := by rw [← hz]; unfold empB; exact (decide_eq_true (by omega)).symm
  clear hz
  go_enter Tryz.func91, Tryz.ntmps91
  go_wp2
  go_ret
  exact ⟨rfl, ((Grown.refl _).alloc _ _)⟩
 have d1 : decide (ta < ya) = false := decide_eq_false g1
 obtain rfl : false = z := by rw [← hz]; unfold empB; exact (decide_eq_false (by omega)).symm
 clear hz
 go_enter Tryz.func91, Tryz.ntmps91
 go_wp2
 go_ret
 exact ⟨rfl, ((Grown.refl _).alloc _ _)⟩
abbrev Pik (a b : Int) (g : Bool) (q : Int) : Prop := ∀ w, Calls Tryz.prog 138 #[.int .i32 a, .int .i32 b, .bool g] w fun e w' => e = .returned (.int .i32 q) ∧ w = w'
theorem pik_max {a b q : Int} (hq : max a b = q) : Pik a b true q := fun w => by
 go_enter Tryz.func138, Tryz.ntmps138
 go_wp2
 go_ret
 exact ⟨rfl, rfl⟩
theorem pik_min {a b q : Int} (hq : min a b = q) : Pik a b false q := fun w => by
 go_enter Tryz.func138, Tryz.ntmps138
 go_wp2
 go_ret
 exact ⟨rfl, rfl⟩
theorem pof (k r ax ay m o px py vx vy x y x0 y0 x1 y1 : Int) (E1 : Hid (Ext k r ax ay m o px py vx vy x y)) (h0 : wrap32 (px - x) = x0) (h1 : wrap32 (py - y) = y0) (h2 : wrap32 (px + x) = x1) (h3 : wrap32 (py + y) = y1) : BOf k r ax ay m o px py vx vy x0 y0 x1 y1 := fun w => by
 have f0 := wr32b h0
 have f1 := wr32b h1
 have f2 := wr32b h2
 have f3 := wr32b h3
 clear h0 h1 h2 h3
 go_enter Tryz.func90, Tryz.ntmps90
 go_wp2_with (first
  | ((with_reducible refine (E1.out _).mono ?_); rintro e w1 ⟨rfl, g1⟩
     have c0 := kept_cell g1 (b := w.heap.size) (o := 0) (v := .int .u32 k) (by (repeat (first | rw [World.cell?_drew] | rw [World.cell?_alloc_past _ _ _ (by first | (simp; done) | (simp; omega))])); rw [World.cell?_alloc_at _ _ _ _ (by simp)]; rfl)
     have c1 := kept_cell g1 (b := w.heap.size) (o := 1) (v := .int .i32 r) (by (repeat (first | rw [World.cell?_drew] | rw [World.cell?_alloc_past _ _ _ (by first | (simp; done) | (simp; omega))])); rw [World.cell?_alloc_at _ _ _ _ (by simp)]; rfl)
     have c2 := kept_cell g1 (b := w.heap.size) (o := 2) (v := .int .i32 ax) (by (repeat (first | rw [World.cell?_drew] | rw [World.cell?_alloc_past _ _ _ (by first | (simp; done) | (simp; omega))])); rw [World.cell?_alloc_at _ _ _ _ (by simp)]; rfl)
     have c3 := kept_cell g1 (b := w.heap.size) (o := 3) (v := .int .i32 ay) (by (repeat (first | rw [World.cell?_drew] | rw [World.cell?_alloc_past _ _ _ (by first | (simp; done) | (simp; omega))])); rw [World.cell?_alloc_at _ _ _ _ (by simp)]; rfl)
     have c4 := kept_cell g1 (b := w.heap.size) (o := 4) (v := .int .i32 m) (by (repeat (first | rw [World.cell?_drew] | rw [World.cell?_alloc_past _ _ _ (by first | (simp; done) | (simp; omega))])); rw [World.cell?_alloc_at _ _ _ _ (by simp)]; rfl)
     have c5 := kept_cell g1 (b := w.heap.size) (o := 5) (v := .int .i32 o) (by (repeat (first | rw [World.cell?_drew] | rw [World.cell?_alloc_past _ _ _ (by first | (simp; done) | (simp; omega))])); rw [World.cell?_alloc_at _ _ _ _ (by simp)]; rfl)
     have c6 := kept_cell g1 (b := w.heap.size) (o := 6) (v := .int .i32 px) (by (repeat (first | rw [World.cell?_drew] | rw [World.cell?_alloc_past _ _ _ (by first | (simp; done) | (simp; omega))])); rw [World.cell?_alloc_at _ _ _ _ (by simp)]; rfl)
     have c7 := kept_cell g1 (b := w.heap.size) (o := 7) (v := .int .i32 py) (by (repeat (first | rw [World.cell?_drew] | rw [World.cell?_alloc_past _ _ _ (by first | (simp; done) | (simp; omega))])); rw [World.cell?_alloc_at _ _ _ _ (by simp)]; rfl)
     have c8 := kept_cell g1 (b := w.heap.size) (o := 8) (v := .int .i32 vx) (by (repeat (first | rw [World.cell?_drew] | rw [World.cell?_alloc_past _ _ _ (by first | (simp; done) | (simp; omega))])); rw [World.cell?_alloc_at _ _ _ _ (by simp)]; rfl)
     have c9 := kept_cell g1 (b := w.heap.size) (o := 9) (v := .int .i32 vy) (by (repeat (first | rw [World.cell?_drew] | rw [World.cell?_alloc_past _ _ _ (by first | (simp; done) | (simp; omega))])); rw [World.cell?_alloc_at _ _ _ _ (by simp)]; rfl)
     have z0 := kept_cell g1 (b := w.heap.size + 1) (o := 0) (v := .int .i32 0) (by (repeat (first | rw [World.cell?_drew] | rw [World.cell?_alloc_past _ _ _ (by first | (simp; done) | (simp; omega))])); rw [World.cell?_alloc_at _ _ _ _ (by simp)]; rfl)
     have z1 := kept_cell g1 (b := w.heap.size + 1) (o := 1) (v := .int .i32 0) (by (repeat (first | rw [World.cell?_drew] | rw [World.cell?_alloc_past _ _ _ (by first | (simp; done) | (simp; omega))])); rw [World.cell?_alloc_at _ _ _ _ (by simp)]; rfl)
     have z2 := kept_cell g1 (b := w.heap.size + 1) (o := 2) (v := .int .i32 0) (by (repeat (first | rw [World.cell?_drew] | rw [World.cell?_alloc_past _ _ _ (by first | (simp; done) | (simp; omega))])); rw [World.cell?_alloc_at _ _ _ _ (by simp)]; rfl)
     have z3 := kept_cell g1 (b := w.heap.size + 1) (o := 3) (v := .int .i32 0) (by (repeat (first | rw [World.cell?_drew] | rw [World.cell?_alloc_past _ _ _ (by first | (simp; done) | (simp; omega))])); rw [World.cell?_alloc_at _ _ _ _ (by simp)]; rfl)
     have fz0 := kept_frozen g1 (b := w.heap.size + 1) (o := 0) (by (repeat (first | rw [World.frozen?_drew] | rw [World.frozen?_alloc_past _ _ _ (by first | (simp; done) | (simp; omega))])); rw [World.frozen?_alloc_at _ _ _ _ (by simp)])
     have fz1 := kept_frozen g1 (b := w.heap.size + 1) (o := 1) (by (repeat (first | rw [World.frozen?_drew] | rw [World.frozen?_alloc_past _ _ _ (by first | (simp; done) | (simp; omega))])); rw [World.frozen?_alloc_at _ _ _ _ (by simp)])
     have fz2 := kept_frozen g1 (b := w.heap.size + 1) (o := 2) (by (repeat (first | rw [World.frozen?_drew] | rw [World.frozen?_alloc_past _ _ _ (by first | (simp; done) | (simp; omega))])); rw [World.frozen?_alloc_at _ _ _ _ (by simp)])
     have fz3 := kept_frozen g1 (b := w.heap.size + 1) (o := 3) (by (repeat (first | rw [World.frozen?_drew] | rw [World.frozen?_alloc_past _ _ _ (by first | (simp; done) | (simp; omega))])); rw [World.frozen?_alloc_at _ _ _ _ (by simp)])
     have gg := grown_trans (((Grown.refl _).alloc _ _).alloc _ _) g1))
 exact bodyPost_ret (v := .agg #[.int .i32 x0, .int .i32 y0, .int .i32 x1, .int .i32 y1]) (by simp [results, Tryz.results90, go_sem, z0, z1, z2, z3]) rfl ⟨rfl, (((gg.setCell (by dsimp only; omega) _).setCell (by dsimp only; omega) _).setCell (by dsimp only; omega) _).setCell (by dsimp only; omega) _⟩
abbrev BCb (xa ya za ta xb yb zb tb : Int) (o : Bool) (x y z t : Int) : Prop := ∀ w, Calls Tryz.prog 109 #[.agg #[.int .i32 xa, .int .i32 ya, .int .i32 za, .int .i32 ta], .agg #[.int .i32 xb, .int .i32 yb, .int .i32 zb, .int .i32 tb], .bool o] w fun e w' => e = .returned (.agg #[.int .i32 x, .int .i32 y, .int .i32 z, .int .i32 t]) ∧ Grown w w'
theorem pcb_in {xa ya za ta xb yb zb tb x y z t : Int} (h0 : max xa xb = x) (h1 : max ya yb = y) (h2 : min za zb = z) (h3 : min ta tb = t) : BCb xa ya za ta xb yb zb tb false x y z t := fun w => by
 have L1 := Lib.hid (pik_max h0)
 have L2 := Lib.hid (pik_max h1)
 have L3 := Lib.hid (pik_min h2)
 have L4 := Lib.hid (pik_min h3)
 clear h0 h1 h2 h3
 go_enter Tryz.func109, Tryz.ntmps109
 go_wp2_with fail
 generalize hW : World.alloc (World.alloc (World.alloc w _) _) _ = W1
 have p0 : W1.cell? ⟨w.heap.size, 0, none⟩ = some (.int .i32 xa) := by rw [← hW]; (repeat (first | rw [World.cell?_drew] | rw [World.cell?_alloc_past _ _ _ (by first | (simp; done) | (simp; omega))])); rw [World.cell?_alloc_at _ _ _ _ (by simp)]; rfl
 have p1 : W1.cell? ⟨w.heap.size, 1, none⟩ = some (.int .i32 ya) := by rw [← hW]; (repeat (first | rw [World.cell?_drew] | rw [World.cell?_alloc_past _ _ _ (by first | (simp; done) | (simp; omega))])); rw [World.cell?_alloc_at _ _ _ _ (by simp)]; rfl
 have p2 : W1.cell? ⟨w.heap.size, 2, none⟩ = some (.int .i32 za) := by rw [← hW]; (repeat (first | rw [World.cell?_drew] | rw [World.cell?_alloc_past _ _ _ (by first | (simp; done) | (simp; omega))])); rw [World.cell?_alloc_at _ _ _ _ (by simp)]; rfl
 have p3 : W1.cell? ⟨w.heap.size, 3, none⟩ = some (.int .i32 ta) := by rw [← hW]; (repeat (first | rw [World.cell?_drew] | rw [World.cell?_alloc_past _ _ _ (by first | (simp; done) | (simp; omega))])); rw [World.cell?_alloc_at _ _ _ _ (by simp)]; rfl
 have q0 : W1.cell? ⟨w.heap.size + 1, 0, none⟩ = some (.int .i32 xb) := by rw [← hW]; (repeat (first | rw [World.cell?_drew] | rw [World.cell?_alloc_past _ _ _ (by first | (simp; done) | (simp; omega))])); rw [World.cell?_alloc_at _ _ _ _ (by simp)]; rfl
 have q1 : W1.cell? ⟨w.heap.size + 1, 1, none⟩ = some (.int .i32 yb) := by rw [← hW]; (repeat (first | rw [World.cell?_drew] | rw [World.cell?_alloc_past _ _ _ (by first | (simp; done) | (simp; omega))])); rw [World.cell?_alloc_at _ _ _ _ (by simp)]; rfl
 have q2 : W1.cell? ⟨w.heap.size + 1, 2, none⟩ = some (.int .i32 zb) := by rw [← hW]; (repeat (first | rw [World.cell?_drew] | rw [World.cell?_alloc_past _ _ _ (by first | (simp; done) | (simp; omega))])); rw [World.cell?_alloc_at _ _ _ _ (by simp)]; rfl
 have q3 : W1.cell? ⟨w.heap.size + 1, 3, none⟩ = some (.int .i32 tb) := by rw [← hW]; (repeat (first | rw [World.cell?_drew] | rw [World.cell?_alloc_past _ _ _ (by first | (simp; done) | (simp; omega))])); rw [World.cell?_alloc_at _ _ _ _ (by simp)]; rfl
 have z0 : W1.cell? ⟨w.heap.size + 1 + 1, 0, none⟩ = some (.int .i32 0) := by rw [← hW]; (repeat (first | rw [World.cell?_drew] | rw [World.cell?_alloc_past _ _ _ (by first | (simp; done) | (simp; omega))])); rw [World.cell?_alloc_at _ _ _ _ (by simp)]; rfl
 have z1 : W1.cell? ⟨w.heap.size + 1 + 1, 1, none⟩ = some (.int .i32 0) := by rw [← hW]; (repeat (first | rw [World.cell?_drew] | rw [World.cell?_alloc_past _ _ _ (by first | (simp; done) | (simp; omega))])); rw [World.cell?_alloc_at _ _ _ _ (by simp)]; rfl
 have z2 : W1.cell? ⟨w.heap.size + 1 + 1, 2, none⟩ = some (.int .i32 0) := by rw [← hW]; (repeat (first | rw [World.cell?_drew] | rw [World.cell?_alloc_past _ _ _ (by first | (simp; done) | (simp; omega))])); rw [World.cell?_alloc_at _ _ _ _ (by simp)]; rfl
 have z3 : W1.cell? ⟨w.heap.size + 1 + 1, 3, none⟩ = some (.int .i32 0) := by rw [← hW]; (repeat (first | rw [World.cell?_drew] | rw [World.cell?_alloc_past _ _ _ (by first | (simp; done) | (simp; omega))])); rw [World.cell?_alloc_at _ _ _ _ (by simp)]; rfl
 have fz0 : W1.frozen? ⟨w.heap.size + 1 + 1, 0, none⟩ = false := by rw [← hW, World.frozen?_alloc_at _ _ _ _ (by simp)]
 have fz1 : W1.frozen? ⟨w.heap.size + 1 + 1, 1, none⟩ = false := by rw [← hW, World.frozen?_alloc_at _ _ _ _ (by simp)]
 have fz2 : W1.frozen? ⟨w.heap.size + 1 + 1, 2, none⟩ = false := by rw [← hW, World.frozen?_alloc_at _ _ _ _ (by simp)]
 have fz3 : W1.frozen? ⟨w.heap.size + 1 + 1, 3, none⟩ = false := by rw [← hW, World.frozen?_alloc_at _ _ _ _ (by simp)]
 have gg : Grown w W1 := by rw [← hW]; exact ((((Grown.refl _).alloc _ _).alloc _ _).alloc _ _)
 clear hW
 refine wp_region_still_tail 27 (by kernel_rfl) (by kernel_rfl) ?_
 simp only [List.take_succ_cons, List.take_zero, List.drop_succ_cons, List.drop_zero]
 repeat still_step
 still_call ((L1.out _).mono fun _ _ h => ⟨h.1, h.2.symm⟩)
 repeat still_step
 still_call ((L2.out _).mono fun _ _ h => ⟨h.1, h.2.symm⟩)
 repeat still_step
 still_call ((L3.out _).mono fun _ _ h => ⟨h.1, h.2.symm⟩)
 repeat still_step
 still_call ((L4.out _).mono fun _ _ h => ⟨h.1, h.2.symm⟩)
 repeat still_step
 try refine wpStill_nil ?_
 go_wp2_with fail
 exact bodyPost_ret (v := .agg #[.int .i32 x, .int .i32 y, .int .i32 z, .int .i32 t]) (by simp [results, Tryz.results109, go_sem, z0, z1, z2, z3]) rfl ⟨rfl, (((gg.drew.setCell (by dsimp only; omega) _).setCell (by dsimp only; omega) _).setCell (by dsimp only; omega) _).setCell (by dsimp only; omega) _⟩
abbrev BIn (xa ya za ta xb yb zb tb x y z t : Int) : Prop := ∀ w, Calls Tryz.prog 92 #[.agg #[.int .i32 xa, .int .i32 ya, .int .i32 za, .int .i32 ta], .agg #[.int .i32 xb, .int .i32 yb, .int .i32 zb, .int .i32 tb]] w fun e w' => e = .returned (.agg #[.int .i32 x, .int .i32 y, .int .i32 z, .int .i32 t]) ∧ Grown w w'
theorem pbin {xa ya za ta xb yb zb tb x y z t : Int} (h0 : max xa xb = x) (h1 : max ya yb = y) (h2 : min za zb = z) (h3 : min ta tb = t) : BIn xa ya za ta xb yb zb tb x y z t := fun w => by
 have L := Lib.hid (pcb_in h0 h1 h2 h3)
 clear h0 h1 h2 h3
 go_enter Tryz.func92, Tryz.ntmps92
 go_wp2_with (first
  | ((with_reducible refine (L.out _).mono ?_); rintro e w1 ⟨rfl, g1⟩
     have z0 := kept_cell g1 (b := w.heap.size + 1 + 1) (o := 0) (v := .int .i32 0) (by (repeat (first | rw [World.cell?_drew] | rw [World.cell?_alloc_past _ _ _ (by first | (simp; done) | (simp; omega))])); rw [World.cell?_alloc_at _ _ _ _ (by simp)]; rfl)
     have z1 := kept_cell g1 (b := w.heap.size + 1 + 1) (o := 1) (v := .int .i32 0) (by (repeat (first | rw [World.cell?_drew] | rw [World.cell?_alloc_past _ _ _ (by first | (simp; done) | (simp; omega))])); rw [World.cell?_alloc_at _ _ _ _ (by simp)]; rfl)
     have z2 := kept_cell g1 (b := w.heap.size + 1 + 1) (o := 2) (v := .int .i32 0) (by (repeat (first | rw [World.cell?_drew] | rw [World.cell?_alloc_past _ _ _ (by first | (simp; done) | (simp; omega))])); rw [World.cell?_alloc_at _ _ _ _ (by simp)]; rfl)
     have z3 := kept_cell g1 (b := w.heap.size + 1 + 1) (o := 3) (v := .int .i32 0) (by (repeat (first | rw [World.cell?_drew] | rw [World.cell?_alloc_past _ _ _ (by first | (simp; done) | (simp; omega))])); rw [World.cell?_alloc_at _ _ _ _ (by simp)]; rfl)
     have fz0 := kept_frozen g1 (b := w.heap.size + 1 + 1) (o := 0) (by (repeat (first | rw [World.frozen?_drew] | rw [World.frozen?_alloc_past _ _ _ (by first | (simp; done) | (simp; omega))])); rw [World.frozen?_alloc_at _ _ _ _ (by simp)])
     have fz1 := kept_frozen g1 (b := w.heap.size + 1 + 1) (o := 1) (by (repeat (first | rw [World.frozen?_drew] | rw [World.frozen?_alloc_past _ _ _ (by first | (simp; done) | (simp; omega))])); rw [World.frozen?_alloc_at _ _ _ _ (by simp)])
     have fz2 := kept_frozen g1 (b := w.heap.size + 1 + 1) (o := 2) (by (repeat (first | rw [World.frozen?_drew] | rw [World.frozen?_alloc_past _ _ _ (by first | (simp; done) | (simp; omega))])); rw [World.frozen?_alloc_at _ _ _ _ (by simp)])
     have fz3 := kept_frozen g1 (b := w.heap.size + 1 + 1) (o := 3) (by (repeat (first | rw [World.frozen?_drew] | rw [World.frozen?_alloc_past _ _ _ (by first | (simp; done) | (simp; omega))])); rw [World.frozen?_alloc_at _ _ _ _ (by simp)])
     have gg := grown_trans ((((Grown.refl _).alloc _ _).alloc _ _).alloc _ _) g1))
 exact bodyPost_ret (v := .agg #[.int .i32 x, .int .i32 y, .int .i32 z, .int .i32 t]) (by simp [results, Tryz.results92, go_sem, z0, z1, z2, z3]) rfl ⟨rfl, (((gg.setCell (by dsimp only; omega) _).setCell (by dsimp only; omega) _).setCell (by dsimp only; omega) _).setCell (by dsimp only; omega) _⟩
theorem pov (xa ya za ta xb yb zb tb : Int) (q : Bool) (hq : ovlB xa ya za ta xb yb zb tb = q) : BOv xa ya za ta xb yb zb tb q := fun w => by
 have M1 := Lib.hid (pbin (rfl : max xa xb = _) (rfl : max ya yb = _) (rfl : min za zb = _) (rfl : min ta tb = _))
 have E1 : Hid (BEm (max xa xb) (max ya yb) (min za zb) (min ta tb) (!q)) := Lib.hid (by
  refine pem _ _ _ _ _ ?_
  subst hq
  unfold empB ovlB
  by_cases h : min za zb < max xa xb ∨ min ta tb < max ya yb
  ·rw [decide_eq_true h, decide_eq_false (by omega)]; rfl
  ·rw [decide_eq_false h, decide_eq_true (by omega)]; rfl)
 clear hq
 generalize max xa xb = u0 at M1 E1
 generalize max ya yb = u1 at M1 E1
 generalize min za zb = u2 at M1 E1
 generalize min ta tb = u3 at M1 E1
 go_enter Tryz.func74, Tryz.ntmps74
 go_wp2_with (first
  | ((with_reducible refine (M1.out _).mono ?_); rintro e w1 ⟨rfl, g1⟩
     have gg := grown_trans (((Grown.refl _).alloc _ _).alloc _ _) g1)
  | ((with_reducible refine (E1.out _).mono ?_); rintro e w2 ⟨rfl, g2⟩
     replace gg := grown_trans gg g2))
 go_ret
 exact ⟨by simp, gg⟩
end Go.Proofs.YtaknmlohnifcdaaGreatDoor
