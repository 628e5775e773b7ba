/-
  Package box: its functions.
-/
import Derived.Test.YtnbncdgadahhbaaDoorBodyOps
import Derived.Test.YtnbncdgadahhbaaDoorBoxLawG
import Derived.Deep.DeepCutAuto
namespace Go.Proofs.YtnbncdgadahhbaaDoor
open Go.RowKit Go.Lib

theorem ext_in8 (k r ax ay m o px py vx vy x y : Int) (h1 : -4194304 ≤ ax ∧ ax ≤ 4194304) (h2 : -4194304 ≤ ay ∧ ay ≤ 4194304) (h3 : 4096 ≤ r ∧ r ≤ 4194304) (hx : max ax (-ax) + r = x) (hy : max ay (-ay) + r = y) : Ext k r ax ay m o px py vx vy x y :=
  ext_of k r ax ay m o px py vx vy (max ax (-ax)) (max ay (-ay)) x y (Lib.hid (bab1 (by omega) (by omega) rfl)) (Lib.hid (bab1 (by omega) (by omega) rfl)) (by unfold wrap32; omega) (by unfold wrap32; omega)
theorem pem (xa ya za ta : Int) (z : Bool) (hz : empB xa ya za ta = z) : BEm xa ya za ta z := fun w => by
  by_cases g0 : za < xa
  · have d0 : decide (za < xa) = true := decide_eq_true g0
    obtain rfl : true = z := by rw [← hz]; unfold empB; exact (decide_eq_true (by omega)).symm
    clear hz
    go_enter Tryd.func29, Tryd.ntmps29
    go_wp2
    go_ret
    exact ⟨rfl, ((Grown.refl _).alloc _ _)⟩
  have d0 : decide (za < xa) = false := decide_eq_false g0
  by_cases g1 : ta < ya
  · have d1 : decide (ta < ya) = true := decide_eq_true g1
    obtain rfl : true = z := by rw [← hz]; unfold empB; exact (decide_eq_true (by omega)).symm
    clear hz
    go_enter Tryd.func29, Tryd.ntmps29
    go_wp2
    go_ret
    exact ⟨rfl, ((Grown.refl _).alloc _ _)⟩
  have d1 : decide (ta < ya) = false := decide_eq_false g1
  obtain rfl : false = z := by rw [← hz]; unfold empB; exact (decide_eq_false (by omega)).symm
  clear hz
  go_enter Tryd.func29, Tryd.ntmps29
  go_wp2
  go_ret
  exact ⟨rfl, ((Grown.refl _).alloc _ _)⟩
theorem pco (xa ya za ta x y : Int) (z : Bool) (hz : conB xa ya za ta x y = z) : BCo xa ya za ta x y z := fun w => by
  by_cases g0 : xa ≤ x
  rotate_left
  · have d0 : decide (xa ≤ x) = false := decide_eq_false g0
    obtain rfl : false = z := by rw [← hz]; unfold conB; exact (decide_eq_false (by omega)).symm
    clear hz
    go_enter Tryd.func23, Tryd.ntmps23
    go_wp2
    go_ret
    exact ⟨rfl, (((Grown.refl _).alloc _ _).alloc _ _)⟩
  have d0 : decide (xa ≤ x) = true := decide_eq_true g0
  by_cases g1 : x ≤ za
  rotate_left
  · have d1 : decide (x ≤ za) = false := decide_eq_false g1
    obtain rfl : false = z := by rw [← hz]; unfold conB; exact (decide_eq_false (by omega)).symm
    clear hz
    go_enter Tryd.func23, Tryd.ntmps23
    go_wp2
    go_ret
    exact ⟨rfl, (((Grown.refl _).alloc _ _).alloc _ _)⟩
  have d1 : decide (x ≤ za) = true := decide_eq_true g1
  by_cases g2 : ya ≤ y
  rotate_left
  · have d2 : decide (ya ≤ y) = false := decide_eq_false g2
    obtain rfl : false = z := by rw [← hz]; unfold conB; exact (decide_eq_false (by omega)).symm
    clear hz
    go_enter Tryd.func23, Tryd.ntmps23
    go_wp2
    go_ret
    exact ⟨rfl, (((Grown.refl _).alloc _ _).alloc _ _)⟩
  have d2 : decide (ya ≤ y) = true := decide_eq_true g2
  by_cases g3 : y ≤ ta
  rotate_left
  · have d3 : decide (y ≤ ta) = false := decide_eq_false g3
    obtain rfl : false = z := by rw [← hz]; unfold conB; exact (decide_eq_false (by omega)).symm
    clear hz
    go_enter Tryd.func23, Tryd.ntmps23
    go_wp2
    go_ret
    exact ⟨rfl, (((Grown.refl _).alloc _ _).alloc _ _)⟩
  have d3 : decide (y ≤ ta) = true := decide_eq_true g3
  obtain rfl : true = z := by rw [← hz]; unfold conB; exact (decide_eq_true (by omega)).symm
  clear hz
  go_enter Tryd.func23, Tryd.ntmps23
  go_wp2
  go_ret
  exact ⟨rfl, (((Grown.refl _).alloc _ _).alloc _ _)⟩
abbrev Pik (a b : Int) (g : Bool) (q : Int) : Prop := ∀ w, Calls Tryd.prog 39 #[.int .i32 a, .int .i32 b, .bool g] w fun e w' => e = .returned (.int .i32 q) ∧ w = w'
theorem pik_max {a b q : Int} (hq : max a b = q) : Pik a b true q := fun w => by
  go_enter Tryd.func39, Tryd.ntmps39
  go_wp2
  go_ret
  exact ⟨rfl, rfl⟩
theorem pik_min {a b q : Int} (hq : min a b = q) : Pik a b false q := fun w => by
  go_enter Tryd.func39, Tryd.ntmps39
  go_wp2
  go_ret
  exact ⟨rfl, rfl⟩
theorem pof (k r ax ay m o px py vx vy x y x0 y0 x1 y1 : Int) (E1 : Hid (Ext k r ax ay m o px py vx vy x y)) (h0 : wrap32 (px - x) = x0) (h1 : wrap32 (py - y) = y0) (h2 : wrap32 (px + x) = x1) (h3 : wrap32 (py + y) = y1) : BOf k r ax ay m o px py vx vy x0 y0 x1 y1 := fun w => by
  have f0 := wr32b h0
  have f1 := wr32b h1
  have f2 := wr32b h2
  have f3 := wr32b h3
  clear h0 h1 h2 h3
  go_enter Tryd.func25, Tryd.ntmps25
  go_wp2_with (first
    | ((with_reducible refine (E1.out _).mono ?_); rintro e w1 ⟨rfl, g1⟩
       have c0 := kept_cell g1 (b := w.heap.size) (o := 0) (v := .int .u32 k) (by (repeat (first | rw [World.cell?_drew] | rw [World.cell?_alloc_past _ _ _ (by first | (simp; done) | (simp; omega))])); rw [World.cell?_alloc_at _ _ _ _ (by simp)]; rfl)
       have c1 := kept_cell g1 (b := w.heap.size) (o := 1) (v := .int .i32 r) (by (repeat (first | rw [World.cell?_drew] | rw [World.cell?_alloc_past _ _ _ (by first | (simp; done) | (simp; omega))])); rw [World.cell?_alloc_at _ _ _ _ (by simp)]; rfl)
       have c2 := kept_cell g1 (b := w.heap.size) (o := 2) (v := .int .i32 ax) (by (repeat (first | rw [World.cell?_drew] | rw [World.cell?_alloc_past _ _ _ (by first | (simp; done) | (simp; omega))])); rw [World.cell?_alloc_at _ _ _ _ (by simp)]; rfl)
       have c3 := kept_cell g1 (b := w.heap.size) (o := 3) (v := .int .i32 ay) (by (repeat (first | rw [World.cell?_drew] | rw [World.cell?_alloc_past _ _ _ (by first | (simp; done) | (simp; omega))])); rw [World.cell?_alloc_at _ _ _ _ (by simp)]; rfl)
       have c4 := kept_cell g1 (b := w.heap.size) (o := 4) (v := .int .i32 m) (by (repeat (first | rw [World.cell?_drew] | rw [World.cell?_alloc_past _ _ _ (by first | (simp; done) | (simp; omega))])); rw [World.cell?_alloc_at _ _ _ _ (by simp)]; rfl)
       have c5 := kept_cell g1 (b := w.heap.size) (o := 5) (v := .int .i32 o) (by (repeat (first | rw [World.cell?_drew] | rw [World.cell?_alloc_past _ _ _ (by first | (simp; done) | (simp; omega))])); rw [World.cell?_alloc_at _ _ _ _ (by simp)]; rfl)
       have c6 := kept_cell g1 (b := w.heap.size) (o := 6) (v := .int .i32 px) (by (repeat (first | rw [World.cell?_drew] | rw [World.cell?_alloc_past _ _ _ (by first | (simp; done) | (simp; omega))])); rw [World.cell?_alloc_at _ _ _ _ (by simp)]; rfl)
       have c7 := kept_cell g1 (b := w.heap.size) (o := 7) (v := .int .i32 py) (by (repeat (first | rw [World.cell?_drew] | rw [World.cell?_alloc_past _ _ _ (by first | (simp; done) | (simp; omega))])); rw [World.cell?_alloc_at _ _ _ _ (by simp)]; rfl)
       have c8 := kept_cell g1 (b := w.heap.size) (o := 8) (v := .int .i32 vx) (by (repeat (first | rw [World.cell?_drew] | rw [World.cell?_alloc_past _ _ _ (by first | (simp; done) | (simp; omega))])); rw [World.cell?_alloc_at _ _ _ _ (by simp)]; rfl)
       have c9 := kept_cell g1 (b := w.heap.size) (o := 9) (v := .int .i32 vy) (by (repeat (first | rw [World.cell?_drew] | rw [World.cell?_alloc_past _ _ _ (by first | (simp; done) | (simp; omega))])); rw [World.cell?_alloc_at _ _ _ _ (by simp)]; rfl)
       have z0 := kept_cell g1 (b := w.heap.size + 1) (o := 0) (v := .int .i32 0) (by (repeat (first | rw [World.cell?_drew] | rw [World.cell?_alloc_past _ _ _ (by first | (simp; done) | (simp; omega))])); rw [World.cell?_alloc_at _ _ _ _ (by simp)]; rfl)
       have z1 := kept_cell g1 (b := w.heap.size + 1) (o := 1) (v := .int .i32 0) (by (repeat (first | rw [World.cell?_drew] | rw [World.cell?_alloc_past _ _ _ (by first | (simp; done) | (simp; omega))])); rw [World.cell?_alloc_at _ _ _ _ (by simp)]; rfl)
       have z2 := kept_cell g1 (b := w.heap.size + 1) (o := 2) (v := .int .i32 0) (by (repeat (first | rw [World.cell?_drew] | rw [World.cell?_alloc_past _ _ _ (by first | (simp; done) | (simp; omega))])); rw [World.cell?_alloc_at _ _ _ _ (by simp)]; rfl)
       have z3 := kept_cell g1 (b := w.heap.size + 1) (o := 3) (v := .int .i32 0) (by (repeat (first | rw [World.cell?_drew] | rw [World.cell?_alloc_past _ _ _ (by first | (simp; done) | (simp; omega))])); rw [World.cell?_alloc_at _ _ _ _ (by simp)]; rfl)
       have fz0 := kept_frozen g1 (b := w.heap.size + 1) (o := 0) (by (repeat (first | rw [World.frozen?_drew] | rw [World.frozen?_alloc_past _ _ _ (by first | (simp; done) | (simp; omega))])); rw [World.frozen?_alloc_at _ _ _ _ (by simp)])
       have fz1 := kept_frozen g1 (b := w.heap.size + 1) (o := 1) (by (repeat (first | rw [World.frozen?_drew] | rw [World.frozen?_alloc_past _ _ _ (by first | (simp; done) | (simp; omega))])); rw [World.frozen?_alloc_at _ _ _ _ (by simp)])
       have fz2 := kept_frozen g1 (b := w.heap.size + 1) (o := 2) (by (repeat (first | rw [World.frozen?_drew] | rw [World.frozen?_alloc_past _ _ _ (by first | (simp; done) | (simp; omega))])); rw [World.frozen?_alloc_at _ _ _ _ (by simp)])
       have fz3 := kept_frozen g1 (b := w.heap.size + 1) (o := 3) (by (repeat (first | rw [World.frozen?_drew] | rw [World.frozen?_alloc_past _ _ _ (by first | (simp; done) | (simp; omega))])); rw [World.frozen?_alloc_at _ _ _ _ (by simp)])
       have gg := grown_trans (((Grown.refl _).alloc _ _).alloc _ _) g1))
  exact bodyPost_ret (v := .agg #[.int .i32 x0, .int .i32 y0, .int .i32 x1, .int .i32 y1]) (by simp [results, Tryd.results25, go_sem, z0, z1, z2, z3]) rfl ⟨rfl, (((gg.setCell (by dsimp only; omega) _).setCell (by dsimp only; omega) _).setCell (by dsimp only; omega) _).setCell (by dsimp only; omega) _⟩
end Go.Proofs.YtnbncdgadahhbaaDoor
