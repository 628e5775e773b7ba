/-
  Package box: the law BoxGrows.
-/
import Derived.Test.YtpbajmgjnpkgkaaBoxLawS
import Derived.Deep.DeepCutAuto
namespace Go.Proofs.Ytpbajmgjnpkgkaa
open Go.RowKit Go.Lib

theorem chk_in {r ax ay m o px py vx vy : Int} (h : chk r ax ay m o px py vx vy = 0) : (4096 ≤ r ∧ r ≤ 4194304) ∧ ((-4194304 ≤ ax ∧ ax ≤ 4194304) ∧ (-4194304 ≤ ay ∧ ay ≤ 4194304)) ∧ ((-1073741824 ≤ px ∧ px ≤ 1073741824) ∧ (-1073741824 ≤ py ∧ py ≤ 1073741824)) := by
  unfold chk at h
  split at h
  · split at h
    · split at h
      · split at h
        · split at h
          · rename_i h1 h2 h3 h4 h5
            exact ⟨h1, h2, h5⟩
          · omega
        · omega
      · omega
    · omega
  · omega
theorem wr32b {n q : Int} (h : wrap32 n = q) : IntKind.i32.wrap n = q := by rw [← h, IntKind.wrap_i32]; unfold wrap32; rfl
set_option maxRecDepth 100000 in
set_option maxHeartbeats 2000000 in
theorem bgl_bad1 (k r ax ay m o px py vx vy rr e1 e2 : Int) (AW : Hid BAwake) (C1 : Hid (Rck k r ax ay m o px py vx vy e1)) (_C2 : Hid (Rck k rr ax ay m o px py vx vy e2)) (h1 : (e1 != 0) = true) (w : World) :
    Calls Try.prog 7 #[.agg #[.int .u32 k, .int .i32 r, .int .i32 ax, .int .i32 ay, .int .i32 m, .int .i32 o, .int .i32 px, .int .i32 py, .int .i32 vx, .int .i32 vy], .int .i32 rr] w fun e w' => e = .returned (.bool true) ∧ Grown w w' := by
  go_enter Try.func7, Try.ntmps7
  go_wp2_with (first
    | ((with_reducible refine (AW.out _).mono ?_); rintro e w1 ⟨rfl, g1⟩
       (first | (replace gg := grown_trans gg g1) | (have c0 := kept_cell g1 (b := w.heap.size) (o := 0) (v := .int .u32 k) (by (repeat (first | rw [World.cell?_drew] | rw [World.cell?_alloc_past _ _ _ (by first | (simp; done) | (simp; omega))])); rw [World.cell?_alloc_at _ _ _ _ (by simp)]; rfl); have c1 := kept_cell g1 (b := w.heap.size) (o := 1) (v := .int .i32 r) (by (repeat (first | rw [World.cell?_drew] | rw [World.cell?_alloc_past _ _ _ (by first | (simp; done) | (simp; omega))])); rw [World.cell?_alloc_at _ _ _ _ (by simp)]; rfl); have c2 := kept_cell g1 (b := w.heap.size) (o := 2) (v := .int .i32 ax) (by (repeat (first | rw [World.cell?_drew] | rw [World.cell?_alloc_past _ _ _ (by first | (simp; done) | (simp; omega))])); rw [World.cell?_alloc_at _ _ _ _ (by simp)]; rfl); have c3 := kept_cell g1 (b := w.heap.size) (o := 3) (v := .int .i32 ay) (by (repeat (first | rw [World.cell?_drew] | rw [World.cell?_alloc_past _ _ _ (by first | (simp; done) | (simp; omega))])); rw [World.cell?_alloc_at _ _ _ _ (by simp)]; rfl); have c4 := kept_cell g1 (b := w.heap.size) (o := 4) (v := .int .i32 m) (by (repeat (first | rw [World.cell?_drew] | rw [World.cell?_alloc_past _ _ _ (by first | (simp; done) | (simp; omega))])); rw [World.cell?_alloc_at _ _ _ _ (by simp)]; rfl); have c5 := kept_cell g1 (b := w.heap.size) (o := 5) (v := .int .i32 o) (by (repeat (first | rw [World.cell?_drew] | rw [World.cell?_alloc_past _ _ _ (by first | (simp; done) | (simp; omega))])); rw [World.cell?_alloc_at _ _ _ _ (by simp)]; rfl); have c6 := kept_cell g1 (b := w.heap.size) (o := 6) (v := .int .i32 px) (by (repeat (first | rw [World.cell?_drew] | rw [World.cell?_alloc_past _ _ _ (by first | (simp; done) | (simp; omega))])); rw [World.cell?_alloc_at _ _ _ _ (by simp)]; rfl); have c7 := kept_cell g1 (b := w.heap.size) (o := 7) (v := .int .i32 py) (by (repeat (first | rw [World.cell?_drew] | rw [World.cell?_alloc_past _ _ _ (by first | (simp; done) | (simp; omega))])); rw [World.cell?_alloc_at _ _ _ _ (by simp)]; rfl); have c8 := kept_cell g1 (b := w.heap.size) (o := 8) (v := .int .i32 vx) (by (repeat (first | rw [World.cell?_drew] | rw [World.cell?_alloc_past _ _ _ (by first | (simp; done) | (simp; omega))])); rw [World.cell?_alloc_at _ _ _ _ (by simp)]; rfl); have c9 := kept_cell g1 (b := w.heap.size) (o := 9) (v := .int .i32 vy) (by (repeat (first | rw [World.cell?_drew] | rw [World.cell?_alloc_past _ _ _ (by first | (simp; done) | (simp; omega))])); rw [World.cell?_alloc_at _ _ _ _ (by simp)]; rfl); have d0 := kept_cell g1 (b := w.heap.size + 1) (o := 0) (v := .int .u32 k) (by (repeat (first | rw [World.cell?_drew] | rw [World.cell?_alloc_past _ _ _ (by first | (simp; done) | (simp; omega))])); rw [World.cell?_alloc_at _ _ _ _ (by simp)]; rfl); have d1 := kept_cell g1 (b := w.heap.size + 1) (o := 1) (v := .int .i32 rr) (by (repeat (first | rw [World.cell?_drew] | rw [World.cell?_alloc_past _ _ _ (by first | (simp; done) | (simp; omega))])); rw [World.cell?_alloc_at _ _ _ _ (by simp)]; rfl); have d2 := kept_cell g1 (b := w.heap.size + 1) (o := 2) (v := .int .i32 ax) (by (repeat (first | rw [World.cell?_drew] | rw [World.cell?_alloc_past _ _ _ (by first | (simp; done) | (simp; omega))])); rw [World.cell?_alloc_at _ _ _ _ (by simp)]; rfl); have d3 := kept_cell g1 (b := w.heap.size + 1) (o := 3) (v := .int .i32 ay) (by (repeat (first | rw [World.cell?_drew] | rw [World.cell?_alloc_past _ _ _ (by first | (simp; done) | (simp; omega))])); rw [World.cell?_alloc_at _ _ _ _ (by simp)]; rfl); have d4 := kept_cell g1 (b := w.heap.size + 1) (o := 4) (v := .int .i32 m) (by (repeat (first | rw [World.cell?_drew] | rw [World.cell?_alloc_past _ _ _ (by first | (simp; done) | (simp; omega))])); rw [World.cell?_alloc_at _ _ _ _ (by simp)]; rfl); have d5 := kept_cell g1 (b := w.heap.size + 1) (o := 5) (v := .int .i32 o) (by (repeat (first | rw [World.cell?_drew] | rw [World.cell?_alloc_past _ _ _ (by first | (simp; done) | (simp; omega))])); rw [World.cell?_alloc_at _ _ _ _ (by simp)]; rfl); have d6 := kept_cell g1 (b := w.heap.size + 1) (o := 6) (v := .int .i32 px) (by (repeat (first | rw [World.cell?_drew] | rw [World.cell?_alloc_past _ _ _ (by first | (simp; done) | (simp; omega))])); rw [World.cell?_alloc_at _ _ _ _ (by simp)]; rfl); have d7 := kept_cell g1 (b := w.heap.size + 1) (o := 7) (v := .int .i32 py) (by (repeat (first | rw [World.cell?_drew] | rw [World.cell?_alloc_past _ _ _ (by first | (simp; done) | (simp; omega))])); rw [World.cell?_alloc_at _ _ _ _ (by simp)]; rfl); have d8 := kept_cell g1 (b := w.heap.size + 1) (o := 8) (v := .int .i32 vx) (by (repeat (first | rw [World.cell?_drew] | rw [World.cell?_alloc_past _ _ _ (by first | (simp; done) | (simp; omega))])); rw [World.cell?_alloc_at _ _ _ _ (by simp)]; rfl); have d9 := kept_cell g1 (b := w.heap.size + 1) (o := 9) (v := .int .i32 vy) (by (repeat (first | rw [World.cell?_drew] | rw [World.cell?_alloc_past _ _ _ (by first | (simp; done) | (simp; omega))])); rw [World.cell?_alloc_at _ _ _ _ (by simp)]; rfl); have gg := grown_trans (((Grown.refl _).alloc _ _).alloc _ _) g1)))
    | ((with_reducible refine (C1.out _).mono ?_); rintro e w2 ⟨rfl, g2⟩
       replace c0 := kept_cell g2 (b := w.heap.size) (o := 0) (v := .int .u32 k) c0
       replace c1 := kept_cell g2 (b := w.heap.size) (o := 1) (v := .int .i32 r) c1
       replace c2 := kept_cell g2 (b := w.heap.size) (o := 2) (v := .int .i32 ax) c2
       replace c3 := kept_cell g2 (b := w.heap.size) (o := 3) (v := .int .i32 ay) c3
       replace c4 := kept_cell g2 (b := w.heap.size) (o := 4) (v := .int .i32 m) c4
       replace c5 := kept_cell g2 (b := w.heap.size) (o := 5) (v := .int .i32 o) c5
       replace c6 := kept_cell g2 (b := w.heap.size) (o := 6) (v := .int .i32 px) c6
       replace c7 := kept_cell g2 (b := w.heap.size) (o := 7) (v := .int .i32 py) c7
       replace c8 := kept_cell g2 (b := w.heap.size) (o := 8) (v := .int .i32 vx) c8
       replace c9 := kept_cell g2 (b := w.heap.size) (o := 9) (v := .int .i32 vy) c9
       replace d0 := kept_cell g2 (b := w.heap.size + 1) (o := 0) (v := .int .u32 k) d0
       replace d1 := kept_cell g2 (b := w.heap.size + 1) (o := 1) (v := .int .i32 rr) d1
       replace d2 := kept_cell g2 (b := w.heap.size + 1) (o := 2) (v := .int .i32 ax) d2
       replace d3 := kept_cell g2 (b := w.heap.size + 1) (o := 3) (v := .int .i32 ay) d3
       replace d4 := kept_cell g2 (b := w.heap.size + 1) (o := 4) (v := .int .i32 m) d4
       replace d5 := kept_cell g2 (b := w.heap.size + 1) (o := 5) (v := .int .i32 o) d5
       replace d6 := kept_cell g2 (b := w.heap.size + 1) (o := 6) (v := .int .i32 px) d6
       replace d7 := kept_cell g2 (b := w.heap.size + 1) (o := 7) (v := .int .i32 py) d7
       replace d8 := kept_cell g2 (b := w.heap.size + 1) (o := 8) (v := .int .i32 vx) d8
       replace d9 := kept_cell g2 (b := w.heap.size + 1) (o := 9) (v := .int .i32 vy) d9
       replace gg := grown_trans gg g2
       have zc_w2 : w.heap.size < w2.heap.size := World.block_lt_of_cell? _ _ c0
       have zd_w2 : w.heap.size + 1 < w2.heap.size := World.block_lt_of_cell? _ _ d0))
  go_ret
  exact ⟨rfl, gg⟩
set_option maxRecDepth 100000 in
set_option maxHeartbeats 2000000 in
theorem bgl_bad2 (k r ax ay m o px py vx vy rr e1 e2 : Int) (AW : Hid BAwake) (C1 : Hid (Rck k r ax ay m o px py vx vy e1)) (C2 : Hid (Rck k rr ax ay m o px py vx vy e2)) (h1 : (e1 != 0) = false) (h2 : (e2 != 0) = true) (w : World) :
    Calls Try.prog 7 #[.agg #[.int .u32 k, .int .i32 r, .int .i32 ax, .int .i32 ay, .int .i32 m, .int .i32 o, .int .i32 px, .int .i32 py, .int .i32 vx, .int .i32 vy], .int .i32 rr] w fun e w' => e = .returned (.bool true) ∧ Grown w w' := by
  go_enter Try.func7, Try.ntmps7
  go_wp2_with (first
    | ((with_reducible refine (AW.out _).mono ?_); rintro e w1 ⟨rfl, g1⟩
       (first | (replace gg := grown_trans gg g1) | (have c0 := kept_cell g1 (b := w.heap.size) (o := 0) (v := .int .u32 k) (by (repeat (first | rw [World.cell?_drew] | rw [World.cell?_alloc_past _ _ _ (by first | (simp; done) | (simp; omega))])); rw [World.cell?_alloc_at _ _ _ _ (by simp)]; rfl); have c1 := kept_cell g1 (b := w.heap.size) (o := 1) (v := .int .i32 r) (by (repeat (first | rw [World.cell?_drew] | rw [World.cell?_alloc_past _ _ _ (by first | (simp; done) | (simp; omega))])); rw [World.cell?_alloc_at _ _ _ _ (by simp)]; rfl); have c2 := kept_cell g1 (b := w.heap.size) (o := 2) (v := .int .i32 ax) (by (repeat (first | rw [World.cell?_drew] | rw [World.cell?_alloc_past _ _ _ (by first | (simp; done) | (simp; omega))])); rw [World.cell?_alloc_at _ _ _ _ (by simp)]; rfl); have c3 := kept_cell g1 (b := w.heap.size) (o := 3) (v := .int .i32 ay) (by (repeat (first | rw [World.cell?_drew] | rw [World.cell?_alloc_past _ _ _ (by first | (simp; done) | (simp; omega))])); rw [World.cell?_alloc_at _ _ _ _ (by simp)]; rfl); have c4 := kept_cell g1 (b := w.heap.size) (o := 4) (v := .int .i32 m) (by (repeat (first | rw [World.cell?_drew] | rw [World.cell?_alloc_past _ _ _ (by first | (simp; done) | (simp; omega))])); rw [World.cell?_alloc_at _ _ _ _ (by simp)]; rfl); have c5 := kept_cell g1 (b := w.heap.size) (o := 5) (v := .int .i32 o) (by (repeat (first | rw [World.cell?_drew] | rw [World.cell?_alloc_past _ _ _ (by first | (simp; done) | (simp; omega))])); rw [World.cell?_alloc_at _ _ _ _ (by simp)]; rfl); have c6 := kept_cell g1 (b := w.heap.size) (o := 6) (v := .int .i32 px) (by (repeat (first | rw [World.cell?_drew] | rw [World.cell?_alloc_past _ _ _ (by first | (simp; done) | (simp; omega))])); rw [World.cell?_alloc_at _ _ _ _ (by simp)]; rfl); have c7 := kept_cell g1 (b := w.heap.size) (o := 7) (v := .int .i32 py) (by (repeat (first | rw [World.cell?_drew] | rw [World.cell?_alloc_past _ _ _ (by first | (simp; done) | (simp; omega))])); rw [World.cell?_alloc_at _ _ _ _ (by simp)]; rfl); have c8 := kept_cell g1 (b := w.heap.size) (o := 8) (v := .int .i32 vx) (by (repeat (first | rw [World.cell?_drew] | rw [World.cell?_alloc_past _ _ _ (by first | (simp; done) | (simp; omega))])); rw [World.cell?_alloc_at _ _ _ _ (by simp)]; rfl); have c9 := kept_cell g1 (b := w.heap.size) (o := 9) (v := .int .i32 vy) (by (repeat (first | rw [World.cell?_drew] | rw [World.cell?_alloc_past _ _ _ (by first | (simp; done) | (simp; omega))])); rw [World.cell?_alloc_at _ _ _ _ (by simp)]; rfl); have d0 := kept_cell g1 (b := w.heap.size + 1) (o := 0) (v := .int .u32 k) (by (repeat (first | rw [World.cell?_drew] | rw [World.cell?_alloc_past _ _ _ (by first | (simp; done) | (simp; omega))])); rw [World.cell?_alloc_at _ _ _ _ (by simp)]; rfl); have d1 := kept_cell g1 (b := w.heap.size + 1) (o := 1) (v := .int .i32 rr) (by (repeat (first | rw [World.cell?_drew] | rw [World.cell?_alloc_past _ _ _ (by first | (simp; done) | (simp; omega))])); rw [World.cell?_alloc_at _ _ _ _ (by simp)]; rfl); have d2 := kept_cell g1 (b := w.heap.size + 1) (o := 2) (v := .int .i32 ax) (by (repeat (first | rw [World.cell?_drew] | rw [World.cell?_alloc_past _ _ _ (by first | (simp; done) | (simp; omega))])); rw [World.cell?_alloc_at _ _ _ _ (by simp)]; rfl); have d3 := kept_cell g1 (b := w.heap.size + 1) (o := 3) (v := .int .i32 ay) (by (repeat (first | rw [World.cell?_drew] | rw [World.cell?_alloc_past _ _ _ (by first | (simp; done) | (simp; omega))])); rw [World.cell?_alloc_at _ _ _ _ (by simp)]; rfl); have d4 := kept_cell g1 (b := w.heap.size + 1) (o := 4) (v := .int .i32 m) (by (repeat (first | rw [World.cell?_drew] | rw [World.cell?_alloc_past _ _ _ (by first | (simp; done) | (simp; omega))])); rw [World.cell?_alloc_at _ _ _ _ (by simp)]; rfl); have d5 := kept_cell g1 (b := w.heap.size + 1) (o := 5) (v := .int .i32 o) (by (repeat (first | rw [World.cell?_drew] | rw [World.cell?_alloc_past _ _ _ (by first | (simp; done) | (simp; omega))])); rw [World.cell?_alloc_at _ _ _ _ (by simp)]; rfl); have d6 := kept_cell g1 (b := w.heap.size + 1) (o := 6) (v := .int .i32 px) (by (repeat (first | rw [World.cell?_drew] | rw [World.cell?_alloc_past _ _ _ (by first | (simp; done) | (simp; omega))])); rw [World.cell?_alloc_at _ _ _ _ (by simp)]; rfl); have d7 := kept_cell g1 (b := w.heap.size + 1) (o := 7) (v := .int .i32 py) (by (repeat (first | rw [World.cell?_drew] | rw [World.cell?_alloc_past _ _ _ (by first | (simp; done) | (simp; omega))])); rw [World.cell?_alloc_at _ _ _ _ (by simp)]; rfl); have d8 := kept_cell g1 (b := w.heap.size + 1) (o := 8) (v := .int .i32 vx) (by (repeat (first | rw [World.cell?_drew] | rw [World.cell?_alloc_past _ _ _ (by first | (simp; done) | (simp; omega))])); rw [World.cell?_alloc_at _ _ _ _ (by simp)]; rfl); have d9 := kept_cell g1 (b := w.heap.size + 1) (o := 9) (v := .int .i32 vy) (by (repeat (first | rw [World.cell?_drew] | rw [World.cell?_alloc_past _ _ _ (by first | (simp; done) | (simp; omega))])); rw [World.cell?_alloc_at _ _ _ _ (by simp)]; rfl); have gg := grown_trans (((Grown.refl _).alloc _ _).alloc _ _) g1)))
    | ((with_reducible refine (C1.out _).mono ?_); rintro e w2 ⟨rfl, g2⟩
       replace c0 := kept_cell g2 (b := w.heap.size) (o := 0) (v := .int .u32 k) c0
       replace c1 := kept_cell g2 (b := w.heap.size) (o := 1) (v := .int .i32 r) c1
       replace c2 := kept_cell g2 (b := w.heap.size) (o := 2) (v := .int .i32 ax) c2
       replace c3 := kept_cell g2 (b := w.heap.size) (o := 3) (v := .int .i32 ay) c3
       replace c4 := kept_cell g2 (b := w.heap.size) (o := 4) (v := .int .i32 m) c4
       replace c5 := kept_cell g2 (b := w.heap.size) (o := 5) (v := .int .i32 o) c5
       replace c6 := kept_cell g2 (b := w.heap.size) (o := 6) (v := .int .i32 px) c6
       replace c7 := kept_cell g2 (b := w.heap.size) (o := 7) (v := .int .i32 py) c7
       replace c8 := kept_cell g2 (b := w.heap.size) (o := 8) (v := .int .i32 vx) c8
       replace c9 := kept_cell g2 (b := w.heap.size) (o := 9) (v := .int .i32 vy) c9
       replace d0 := kept_cell g2 (b := w.heap.size + 1) (o := 0) (v := .int .u32 k) d0
       replace d1 := kept_cell g2 (b := w.heap.size + 1) (o := 1) (v := .int .i32 rr) d1
       replace d2 := kept_cell g2 (b := w.heap.size + 1) (o := 2) (v := .int .i32 ax) d2
       replace d3 := kept_cell g2 (b := w.heap.size + 1) (o := 3) (v := .int .i32 ay) d3
       replace d4 := kept_cell g2 (b := w.heap.size + 1) (o := 4) (v := .int .i32 m) d4
       replace d5 := kept_cell g2 (b := w.heap.size + 1) (o := 5) (v := .int .i32 o) d5
       replace d6 := kept_cell g2 (b := w.heap.size + 1) (o := 6) (v := .int .i32 px) d6
       replace d7 := kept_cell g2 (b := w.heap.size + 1) (o := 7) (v := .int .i32 py) d7
       replace d8 := kept_cell g2 (b := w.heap.size + 1) (o := 8) (v := .int .i32 vx) d8
       replace d9 := kept_cell g2 (b := w.heap.size + 1) (o := 9) (v := .int .i32 vy) d9
       replace gg := grown_trans gg g2
       have zc_w2 : w.heap.size < w2.heap.size := World.block_lt_of_cell? _ _ c0
       have zd_w2 : w.heap.size + 1 < w2.heap.size := World.block_lt_of_cell? _ _ d0)
    | ((with_reducible refine (C2.out _).mono ?_); rintro e w2 ⟨rfl, g2⟩
       replace c0 := kept_cell g2 (b := w.heap.size) (o := 0) (v := .int .u32 k) c0
       replace c1 := kept_cell g2 (b := w.heap.size) (o := 1) (v := .int .i32 r) c1
       replace c2 := kept_cell g2 (b := w.heap.size) (o := 2) (v := .int .i32 ax) c2
       replace c3 := kept_cell g2 (b := w.heap.size) (o := 3) (v := .int .i32 ay) c3
       replace c4 := kept_cell g2 (b := w.heap.size) (o := 4) (v := .int .i32 m) c4
       replace c5 := kept_cell g2 (b := w.heap.size) (o := 5) (v := .int .i32 o) c5
       replace c6 := kept_cell g2 (b := w.heap.size) (o := 6) (v := .int .i32 px) c6
       replace c7 := kept_cell g2 (b := w.heap.size) (o := 7) (v := .int .i32 py) c7
       replace c8 := kept_cell g2 (b := w.heap.size) (o := 8) (v := .int .i32 vx) c8
       replace c9 := kept_cell g2 (b := w.heap.size) (o := 9) (v := .int .i32 vy) c9
       replace d0 := kept_cell g2 (b := w.heap.size + 1) (o := 0) (v := .int .u32 k) d0
       replace d1 := kept_cell g2 (b := w.heap.size + 1) (o := 1) (v := .int .i32 rr) d1
       replace d2 := kept_cell g2 (b := w.heap.size + 1) (o := 2) (v := .int .i32 ax) d2
       replace d3 := kept_cell g2 (b := w.heap.size + 1) (o := 3) (v := .int .i32 ay) d3
       replace d4 := kept_cell g2 (b := w.heap.size + 1) (o := 4) (v := .int .i32 m) d4
       replace d5 := kept_cell g2 (b := w.heap.size + 1) (o := 5) (v := .int .i32 o) d5
       replace d6 := kept_cell g2 (b := w.heap.size + 1) (o := 6) (v := .int .i32 px) d6
       replace d7 := kept_cell g2 (b := w.heap.size + 1) (o := 7) (v := .int .i32 py) d7
       replace d8 := kept_cell g2 (b := w.heap.size + 1) (o := 8) (v := .int .i32 vx) d8
       replace d9 := kept_cell g2 (b := w.heap.size + 1) (o := 9) (v := .int .i32 vy) d9
       replace gg := grown_trans gg g2
       have zc_w2 : w.heap.size < w2.heap.size := World.block_lt_of_cell? _ _ c0
       have zd_w2 : w.heap.size + 1 < w2.heap.size := World.block_lt_of_cell? _ _ d0))
  go_ret
  exact ⟨rfl, gg⟩
set_option maxRecDepth 100000 in
set_option maxHeartbeats 2000000 in
theorem bgl_bad3 (k r ax ay m o px py vx vy rr e1 e2 : Int) (AW : Hid BAwake) (C1 : Hid (Rck k r ax ay m o px py vx vy e1)) (C2 : Hid (Rck k rr ax ay m o px py vx vy e2)) (h1 : (e1 != 0) = false) (h2 : (e2 != 0) = false) (h3 : rr < r) (w : World) :
    Calls Try.prog 7 #[.agg #[.int .u32 k, .int .i32 r, .int .i32 ax, .int .i32 ay, .int .i32 m, .int .i32 o, .int .i32 px, .int .i32 py, .int .i32 vx, .int .i32 vy], .int .i32 rr] w fun e w' => e = .returned (.bool true) ∧ Grown w w' := by
  go_enter Try.func7, Try.ntmps7
  go_wp2_with (first
    | ((with_reducible refine (AW.out _).mono ?_); rintro e w1 ⟨rfl, g1⟩
       (first | (replace gg := grown_trans gg g1) | (have c0 := kept_cell g1 (b := w.heap.size) (o := 0) (v := .int .u32 k) (by (repeat (first | rw [World.cell?_drew] | rw [World.cell?_alloc_past _ _ _ (by first | (simp; done) | (simp; omega))])); rw [World.cell?_alloc_at _ _ _ _ (by simp)]; rfl); have c1 := kept_cell g1 (b := w.heap.size) (o := 1) (v := .int .i32 r) (by (repeat (first | rw [World.cell?_drew] | rw [World.cell?_alloc_past _ _ _ (by first | (simp; done) | (simp; omega))])); rw [World.cell?_alloc_at _ _ _ _ (by simp)]; rfl); have c2 := kept_cell g1 (b := w.heap.size) (o := 2) (v := .int .i32 ax) (by (repeat (first | rw [World.cell?_drew] | rw [World.cell?_alloc_past _ _ _ (by first | (simp; done) | (simp; omega))])); rw [World.cell?_alloc_at _ _ _ _ (by simp)]; rfl); have c3 := kept_cell g1 (b := w.heap.size) (o := 3) (v := .int .i32 ay) (by (repeat (first | rw [World.cell?_drew] | rw [World.cell?_alloc_past _ _ _ (by first | (simp; done) | (simp; omega))])); rw [World.cell?_alloc_at _ _ _ _ (by simp)]; rfl); have c4 := kept_cell g1 (b := w.heap.size) (o := 4) (v := .int .i32 m) (by (repeat (first | rw [World.cell?_drew] | rw [World.cell?_alloc_past _ _ _ (by first | (simp; done) | (simp; omega))])); rw [World.cell?_alloc_at _ _ _ _ (by simp)]; rfl); have c5 := kept_cell g1 (b := w.heap.size) (o := 5) (v := .int .i32 o) (by (repeat (first | rw [World.cell?_drew] | rw [World.cell?_alloc_past _ _ _ (by first | (simp; done) | (simp; omega))])); rw [World.cell?_alloc_at _ _ _ _ (by simp)]; rfl); have c6 := kept_cell g1 (b := w.heap.size) (o := 6) (v := .int .i32 px) (by (repeat (first | rw [World.cell?_drew] | rw [World.cell?_alloc_past _ _ _ (by first | (simp; done) | (simp; omega))])); rw [World.cell?_alloc_at _ _ _ _ (by simp)]; rfl); have c7 := kept_cell g1 (b := w.heap.size) (o := 7) (v := .int .i32 py) (by (repeat (first | rw [World.cell?_drew] | rw [World.cell?_alloc_past _ _ _ (by first | (simp; done) | (simp; omega))])); rw [World.cell?_alloc_at _ _ _ _ (by simp)]; rfl); have c8 := kept_cell g1 (b := w.heap.size) (o := 8) (v := .int .i32 vx) (by (repeat (first | rw [World.cell?_drew] | rw [World.cell?_alloc_past _ _ _ (by first | (simp; done) | (simp; omega))])); rw [World.cell?_alloc_at _ _ _ _ (by simp)]; rfl); have c9 := kept_cell g1 (b := w.heap.size) (o := 9) (v := .int .i32 vy) (by (repeat (first | rw [World.cell?_drew] | rw [World.cell?_alloc_past _ _ _ (by first | (simp; done) | (simp; omega))])); rw [World.cell?_alloc_at _ _ _ _ (by simp)]; rfl); have d0 := kept_cell g1 (b := w.heap.size + 1) (o := 0) (v := .int .u32 k) (by (repeat (first | rw [World.cell?_drew] | rw [World.cell?_alloc_past _ _ _ (by first | (simp; done) | (simp; omega))])); rw [World.cell?_alloc_at _ _ _ _ (by simp)]; rfl); have d1 := kept_cell g1 (b := w.heap.size + 1) (o := 1) (v := .int .i32 rr) (by (repeat (first | rw [World.cell?_drew] | rw [World.cell?_alloc_past _ _ _ (by first | (simp; done) | (simp; omega))])); rw [World.cell?_alloc_at _ _ _ _ (by simp)]; rfl); have d2 := kept_cell g1 (b := w.heap.size + 1) (o := 2) (v := .int .i32 ax) (by (repeat (first | rw [World.cell?_drew] | rw [World.cell?_alloc_past _ _ _ (by first | (simp; done) | (simp; omega))])); rw [World.cell?_alloc_at _ _ _ _ (by simp)]; rfl); have d3 := kept_cell g1 (b := w.heap.size + 1) (o := 3) (v := .int .i32 ay) (by (repeat (first | rw [World.cell?_drew] | rw [World.cell?_alloc_past _ _ _ (by first | (simp; done) | (simp; omega))])); rw [World.cell?_alloc_at _ _ _ _ (by simp)]; rfl); have d4 := kept_cell g1 (b := w.heap.size + 1) (o := 4) (v := .int .i32 m) (by (repeat (first | rw [World.cell?_drew] | rw [World.cell?_alloc_past _ _ _ (by first | (simp; done) | (simp; omega))])); rw [World.cell?_alloc_at _ _ _ _ (by simp)]; rfl); have d5 := kept_cell g1 (b := w.heap.size + 1) (o := 5) (v := .int .i32 o) (by (repeat (first | rw [World.cell?_drew] | rw [World.cell?_alloc_past _ _ _ (by first | (simp; done) | (simp; omega))])); rw [World.cell?_alloc_at _ _ _ _ (by simp)]; rfl); have d6 := kept_cell g1 (b := w.heap.size + 1) (o := 6) (v := .int .i32 px) (by (repeat (first | rw [World.cell?_drew] | rw [World.cell?_alloc_past _ _ _ (by first | (simp; done) | (simp; omega))])); rw [World.cell?_alloc_at _ _ _ _ (by simp)]; rfl); have d7 := kept_cell g1 (b := w.heap.size + 1) (o := 7) (v := .int .i32 py) (by (repeat (first | rw [World.cell?_drew] | rw [World.cell?_alloc_past _ _ _ (by first | (simp; done) | (simp; omega))])); rw [World.cell?_alloc_at _ _ _ _ (by simp)]; rfl); have d8 := kept_cell g1 (b := w.heap.size + 1) (o := 8) (v := .int .i32 vx) (by (repeat (first | rw [World.cell?_drew] | rw [World.cell?_alloc_past _ _ _ (by first | (simp; done) | (simp; omega))])); rw [World.cell?_alloc_at _ _ _ _ (by simp)]; rfl); have d9 := kept_cell g1 (b := w.heap.size + 1) (o := 9) (v := .int .i32 vy) (by (repeat (first | rw [World.cell?_drew] | rw [World.cell?_alloc_past _ _ _ (by first | (simp; done) | (simp; omega))])); rw [World.cell?_alloc_at _ _ _ _ (by simp)]; rfl); have gg := grown_trans (((Grown.refl _).alloc _ _).alloc _ _) g1)))
    | ((with_reducible refine (C1.out _).mono ?_); rintro e w2 ⟨rfl, g2⟩
       replace c0 := kept_cell g2 (b := w.heap.size) (o := 0) (v := .int .u32 k) c0
       replace c1 := kept_cell g2 (b := w.heap.size) (o := 1) (v := .int .i32 r) c1
       replace c2 := kept_cell g2 (b := w.heap.size) (o := 2) (v := .int .i32 ax) c2
       replace c3 := kept_cell g2 (b := w.heap.size) (o := 3) (v := .int .i32 ay) c3
       replace c4 := kept_cell g2 (b := w.heap.size) (o := 4) (v := .int .i32 m) c4
       replace c5 := kept_cell g2 (b := w.heap.size) (o := 5) (v := .int .i32 o) c5
       replace c6 := kept_cell g2 (b := w.heap.size) (o := 6) (v := .int .i32 px) c6
       replace c7 := kept_cell g2 (b := w.heap.size) (o := 7) (v := .int .i32 py) c7
       replace c8 := kept_cell g2 (b := w.heap.size) (o := 8) (v := .int .i32 vx) c8
       replace c9 := kept_cell g2 (b := w.heap.size) (o := 9) (v := .int .i32 vy) c9
       replace d0 := kept_cell g2 (b := w.heap.size + 1) (o := 0) (v := .int .u32 k) d0
       replace d1 := kept_cell g2 (b := w.heap.size + 1) (o := 1) (v := .int .i32 rr) d1
       replace d2 := kept_cell g2 (b := w.heap.size + 1) (o := 2) (v := .int .i32 ax) d2
       replace d3 := kept_cell g2 (b := w.heap.size + 1) (o := 3) (v := .int .i32 ay) d3
       replace d4 := kept_cell g2 (b := w.heap.size + 1) (o := 4) (v := .int .i32 m) d4
       replace d5 := kept_cell g2 (b := w.heap.size + 1) (o := 5) (v := .int .i32 o) d5
       replace d6 := kept_cell g2 (b := w.heap.size + 1) (o := 6) (v := .int .i32 px) d6
       replace d7 := kept_cell g2 (b := w.heap.size + 1) (o := 7) (v := .int .i32 py) d7
       replace d8 := kept_cell g2 (b := w.heap.size + 1) (o := 8) (v := .int .i32 vx) d8
       replace d9 := kept_cell g2 (b := w.heap.size + 1) (o := 9) (v := .int .i32 vy) d9
       replace gg := grown_trans gg g2
       have zc_w2 : w.heap.size < w2.heap.size := World.block_lt_of_cell? _ _ c0
       have zd_w2 : w.heap.size + 1 < w2.heap.size := World.block_lt_of_cell? _ _ d0)
    | ((with_reducible refine (C2.out _).mono ?_); rintro e w2 ⟨rfl, g2⟩
       replace c0 := kept_cell g2 (b := w.heap.size) (o := 0) (v := .int .u32 k) c0
       replace c1 := kept_cell g2 (b := w.heap.size) (o := 1) (v := .int .i32 r) c1
       replace c2 := kept_cell g2 (b := w.heap.size) (o := 2) (v := .int .i32 ax) c2
       replace c3 := kept_cell g2 (b := w.heap.size) (o := 3) (v := .int .i32 ay) c3
       replace c4 := kept_cell g2 (b := w.heap.size) (o := 4) (v := .int .i32 m) c4
       replace c5 := kept_cell g2 (b := w.heap.size) (o := 5) (v := .int .i32 o) c5
       replace c6 := kept_cell g2 (b := w.heap.size) (o := 6) (v := .int .i32 px) c6
       replace c7 := kept_cell g2 (b := w.heap.size) (o := 7) (v := .int .i32 py) c7
       replace c8 := kept_cell g2 (b := w.heap.size) (o := 8) (v := .int .i32 vx) c8
       replace c9 := kept_cell g2 (b := w.heap.size) (o := 9) (v := .int .i32 vy) c9
       replace d0 := kept_cell g2 (b := w.heap.size + 1) (o := 0) (v := .int .u32 k) d0
       replace d1 := kept_cell g2 (b := w.heap.size + 1) (o := 1) (v := .int .i32 rr) d1
       replace d2 := kept_cell g2 (b := w.heap.size + 1) (o := 2) (v := .int .i32 ax) d2
       replace d3 := kept_cell g2 (b := w.heap.size + 1) (o := 3) (v := .int .i32 ay) d3
       replace d4 := kept_cell g2 (b := w.heap.size + 1) (o := 4) (v := .int .i32 m) d4
       replace d5 := kept_cell g2 (b := w.heap.size + 1) (o := 5) (v := .int .i32 o) d5
       replace d6 := kept_cell g2 (b := w.heap.size + 1) (o := 6) (v := .int .i32 px) d6
       replace d7 := kept_cell g2 (b := w.heap.size + 1) (o := 7) (v := .int .i32 py) d7
       replace d8 := kept_cell g2 (b := w.heap.size + 1) (o := 8) (v := .int .i32 vx) d8
       replace d9 := kept_cell g2 (b := w.heap.size + 1) (o := 9) (v := .int .i32 vy) d9
       replace gg := grown_trans gg g2
       have zc_w2 : w.heap.size < w2.heap.size := World.block_lt_of_cell? _ _ c0
       have zd_w2 : w.heap.size + 1 < w2.heap.size := World.block_lt_of_cell? _ _ d0))
  go_ret
  exact ⟨rfl, gg⟩
set_option maxRecDepth 100000 in
set_option maxHeartbeats 4000000 in
theorem bgl_main (k r ax ay m o px py vx vy rr a0 a1 a2 a3 b0 b1 b2 b3 s : Int) (AW : Hid BAwake) (C1 : Hid (Rck k r ax ay m o px py vx vy 0)) (C2 : Hid (Rck k rr ax ay m o px py vx vy 0)) (h3 : r ≤ rr) (F1 : Hid (BOf k r ax ay m o px py vx vy a0 a1 a2 a3)) (F2 : Hid (BOf k rr ax ay m o px py vx vy b0 b1 b2 b3)) (U1 : Hid (BUn a0 a1 a2 a3 b0 b1 b2 b3 b0 b1 b2 b3)) (M1 : Hid (BMe a0 a1 a2 a3 b0 b1 b2 b3 a0 a1 a2 a3)) (V1 : Hid (BOv a0 a1 a2 a3 b0 b1 b2 b3 true)) (h0 : wrap32 (a0 - b0) = s) (h1 : wrap32 (rr - r) = s) (h2 : wrap32 (b3 - a3) = s) (w : World) :
    Calls Try.prog 7 #[.agg #[.int .u32 k, .int .i32 r, .int .i32 ax, .int .i32 ay, .int .i32 m, .int .i32 o, .int .i32 px, .int .i32 py, .int .i32 vx, .int .i32 vy], .int .i32 rr] w fun e w' => e = .returned (.bool true) ∧ Grown w w' := by
  have q1 := fun w => box_eql b0 b1 b2 b3 w
  have q2 := fun w => box_eql a0 a1 a2 a3 w
  have f0 := wr32b h0
  have f1 := wr32b h1
  have f2 := wr32b h2
  have ss : (s == s) = true := by simp
  clear h0 h1 h2
  go_enter Try.func7, Try.ntmps7
  go_wp2_with (first
    | ((with_reducible refine (AW.out _).mono ?_); rintro e w1 ⟨rfl, g1⟩
       have c0 := kept_cell g1 (b := w.heap.size) (o := 0) (v := .int .u32 k) (by (repeat (first | rw [World.cell?_drew] | rw [World.cell?_alloc_past _ _ _ (by first | (simp; done) | (simp; omega))])); rw [World.cell?_alloc_at _ _ _ _ (by simp)]; rfl)
       have c1 := kept_cell g1 (b := w.heap.size) (o := 1) (v := .int .i32 r) (by (repeat (first | rw [World.cell?_drew] | rw [World.cell?_alloc_past _ _ _ (by first | (simp; done) | (simp; omega))])); rw [World.cell?_alloc_at _ _ _ _ (by simp)]; rfl)
       have c2 := kept_cell g1 (b := w.heap.size) (o := 2) (v := .int .i32 ax) (by (repeat (first | rw [World.cell?_drew] | rw [World.cell?_alloc_past _ _ _ (by first | (simp; done) | (simp; omega))])); rw [World.cell?_alloc_at _ _ _ _ (by simp)]; rfl)
       have c3 := kept_cell g1 (b := w.heap.size) (o := 3) (v := .int .i32 ay) (by (repeat (first | rw [World.cell?_drew] | rw [World.cell?_alloc_past _ _ _ (by first | (simp; done) | (simp; omega))])); rw [World.cell?_alloc_at _ _ _ _ (by simp)]; rfl)
       have c4 := kept_cell g1 (b := w.heap.size) (o := 4) (v := .int .i32 m) (by (repeat (first | rw [World.cell?_drew] | rw [World.cell?_alloc_past _ _ _ (by first | (simp; done) | (simp; omega))])); rw [World.cell?_alloc_at _ _ _ _ (by simp)]; rfl)
       have c5 := kept_cell g1 (b := w.heap.size) (o := 5) (v := .int .i32 o) (by (repeat (first | rw [World.cell?_drew] | rw [World.cell?_alloc_past _ _ _ (by first | (simp; done) | (simp; omega))])); rw [World.cell?_alloc_at _ _ _ _ (by simp)]; rfl)
       have c6 := kept_cell g1 (b := w.heap.size) (o := 6) (v := .int .i32 px) (by (repeat (first | rw [World.cell?_drew] | rw [World.cell?_alloc_past _ _ _ (by first | (simp; done) | (simp; omega))])); rw [World.cell?_alloc_at _ _ _ _ (by simp)]; rfl)
       have c7 := kept_cell g1 (b := w.heap.size) (o := 7) (v := .int .i32 py) (by (repeat (first | rw [World.cell?_drew] | rw [World.cell?_alloc_past _ _ _ (by first | (simp; done) | (simp; omega))])); rw [World.cell?_alloc_at _ _ _ _ (by simp)]; rfl)
       have c8 := kept_cell g1 (b := w.heap.size) (o := 8) (v := .int .i32 vx) (by (repeat (first | rw [World.cell?_drew] | rw [World.cell?_alloc_past _ _ _ (by first | (simp; done) | (simp; omega))])); rw [World.cell?_alloc_at _ _ _ _ (by simp)]; rfl)
       have c9 := kept_cell g1 (b := w.heap.size) (o := 9) (v := .int .i32 vy) (by (repeat (first | rw [World.cell?_drew] | rw [World.cell?_alloc_past _ _ _ (by first | (simp; done) | (simp; omega))])); rw [World.cell?_alloc_at _ _ _ _ (by simp)]; rfl)
       have d0 := kept_cell g1 (b := w.heap.size + 1) (o := 0) (v := .int .u32 k) (by (repeat (first | rw [World.cell?_drew] | rw [World.cell?_alloc_past _ _ _ (by first | (simp; done) | (simp; omega))])); rw [World.cell?_alloc_at _ _ _ _ (by simp)]; rfl)
       have d1 := kept_cell g1 (b := w.heap.size + 1) (o := 1) (v := .int .i32 rr) (by (repeat (first | rw [World.cell?_drew] | rw [World.cell?_alloc_past _ _ _ (by first | (simp; done) | (simp; omega))])); rw [World.cell?_alloc_at _ _ _ _ (by simp)]; rfl)
       have d2 := kept_cell g1 (b := w.heap.size + 1) (o := 2) (v := .int .i32 ax) (by (repeat (first | rw [World.cell?_drew] | rw [World.cell?_alloc_past _ _ _ (by first | (simp; done) | (simp; omega))])); rw [World.cell?_alloc_at _ _ _ _ (by simp)]; rfl)
       have d3 := kept_cell g1 (b := w.heap.size + 1) (o := 3) (v := .int .i32 ay) (by (repeat (first | rw [World.cell?_drew] | rw [World.cell?_alloc_past _ _ _ (by first | (simp; done) | (simp; omega))])); rw [World.cell?_alloc_at _ _ _ _ (by simp)]; rfl)
       have d4 := kept_cell g1 (b := w.heap.size + 1) (o := 4) (v := .int .i32 m) (by (repeat (first | rw [World.cell?_drew] | rw [World.cell?_alloc_past _ _ _ (by first | (simp; done) | (simp; omega))])); rw [World.cell?_alloc_at _ _ _ _ (by simp)]; rfl)
       have d5 := kept_cell g1 (b := w.heap.size + 1) (o := 5) (v := .int .i32 o) (by (repeat (first | rw [World.cell?_drew] | rw [World.cell?_alloc_past _ _ _ (by first | (simp; done) | (simp; omega))])); rw [World.cell?_alloc_at _ _ _ _ (by simp)]; rfl)
       have d6 := kept_cell g1 (b := w.heap.size + 1) (o := 6) (v := .int .i32 px) (by (repeat (first | rw [World.cell?_drew] | rw [World.cell?_alloc_past _ _ _ (by first | (simp; done) | (simp; omega))])); rw [World.cell?_alloc_at _ _ _ _ (by simp)]; rfl)
       have d7 := kept_cell g1 (b := w.heap.size + 1) (o := 7) (v := .int .i32 py) (by (repeat (first | rw [World.cell?_drew] | rw [World.cell?_alloc_past _ _ _ (by first | (simp; done) | (simp; omega))])); rw [World.cell?_alloc_at _ _ _ _ (by simp)]; rfl)
       have d8 := kept_cell g1 (b := w.heap.size + 1) (o := 8) (v := .int .i32 vx) (by (repeat (first | rw [World.cell?_drew] | rw [World.cell?_alloc_past _ _ _ (by first | (simp; done) | (simp; omega))])); rw [World.cell?_alloc_at _ _ _ _ (by simp)]; rfl)
       have d9 := kept_cell g1 (b := w.heap.size + 1) (o := 9) (v := .int .i32 vy) (by (repeat (first | rw [World.cell?_drew] | rw [World.cell?_alloc_past _ _ _ (by first | (simp; done) | (simp; omega))])); rw [World.cell?_alloc_at _ _ _ _ (by simp)]; rfl)
       have gg := grown_trans (((Grown.refl _).alloc _ _).alloc _ _) g1
       have zc_w1 : w.heap.size < w1.heap.size := World.block_lt_of_cell? _ _ c0
       have zd_w1 : w.heap.size + 1 < w1.heap.size := World.block_lt_of_cell? _ _ d0)
    | ((with_reducible refine (C1.out _).mono ?_); rintro e w2 ⟨rfl, g2⟩
       replace c0 := kept_cell g2 (b := w.heap.size) (o := 0) (v := .int .u32 k) c0
       replace c1 := kept_cell g2 (b := w.heap.size) (o := 1) (v := .int .i32 r) c1
       replace c2 := kept_cell g2 (b := w.heap.size) (o := 2) (v := .int .i32 ax) c2
       replace c3 := kept_cell g2 (b := w.heap.size) (o := 3) (v := .int .i32 ay) c3
       replace c4 := kept_cell g2 (b := w.heap.size) (o := 4) (v := .int .i32 m) c4
       replace c5 := kept_cell g2 (b := w.heap.size) (o := 5) (v := .int .i32 o) c5
       replace c6 := kept_cell g2 (b := w.heap.size) (o := 6) (v := .int .i32 px) c6
       replace c7 := kept_cell g2 (b := w.heap.size) (o := 7) (v := .int .i32 py) c7
       replace c8 := kept_cell g2 (b := w.heap.size) (o := 8) (v := .int .i32 vx) c8
       replace c9 := kept_cell g2 (b := w.heap.size) (o := 9) (v := .int .i32 vy) c9
       replace d0 := kept_cell g2 (b := w.heap.size + 1) (o := 0) (v := .int .u32 k) d0
       replace d1 := kept_cell g2 (b := w.heap.size + 1) (o := 1) (v := .int .i32 rr) d1
       replace d2 := kept_cell g2 (b := w.heap.size + 1) (o := 2) (v := .int .i32 ax) d2
       replace d3 := kept_cell g2 (b := w.heap.size + 1) (o := 3) (v := .int .i32 ay) d3
       replace d4 := kept_cell g2 (b := w.heap.size + 1) (o := 4) (v := .int .i32 m) d4
       replace d5 := kept_cell g2 (b := w.heap.size + 1) (o := 5) (v := .int .i32 o) d5
       replace d6 := kept_cell g2 (b := w.heap.size + 1) (o := 6) (v := .int .i32 px) d6
       replace d7 := kept_cell g2 (b := w.heap.size + 1) (o := 7) (v := .int .i32 py) d7
       replace d8 := kept_cell g2 (b := w.heap.size + 1) (o := 8) (v := .int .i32 vx) d8
       replace d9 := kept_cell g2 (b := w.heap.size + 1) (o := 9) (v := .int .i32 vy) d9
       replace gg := grown_trans gg g2
       have zc_w2 : w.heap.size < w2.heap.size := World.block_lt_of_cell? _ _ c0
       have zd_w2 : w.heap.size + 1 < w2.heap.size := World.block_lt_of_cell? _ _ d0)
    | ((with_reducible refine (C2.out _).mono ?_); rintro e w3 ⟨rfl, g3⟩
       replace c0 := kept_cell g3 (b := w.heap.size) (o := 0) (v := .int .u32 k) c0
       replace c1 := kept_cell g3 (b := w.heap.size) (o := 1) (v := .int .i32 r) c1
       replace c2 := kept_cell g3 (b := w.heap.size) (o := 2) (v := .int .i32 ax) c2
       replace c3 := kept_cell g3 (b := w.heap.size) (o := 3) (v := .int .i32 ay) c3
       replace c4 := kept_cell g3 (b := w.heap.size) (o := 4) (v := .int .i32 m) c4
       replace c5 := kept_cell g3 (b := w.heap.size) (o := 5) (v := .int .i32 o) c5
       replace c6 := kept_cell g3 (b := w.heap.size) (o := 6) (v := .int .i32 px) c6
       replace c7 := kept_cell g3 (b := w.heap.size) (o := 7) (v := .int .i32 py) c7
       replace c8 := kept_cell g3 (b := w.heap.size) (o := 8) (v := .int .i32 vx) c8
       replace c9 := kept_cell g3 (b := w.heap.size) (o := 9) (v := .int .i32 vy) c9
       replace d0 := kept_cell g3 (b := w.heap.size + 1) (o := 0) (v := .int .u32 k) d0
       replace d1 := kept_cell g3 (b := w.heap.size + 1) (o := 1) (v := .int .i32 rr) d1
       replace d2 := kept_cell g3 (b := w.heap.size + 1) (o := 2) (v := .int .i32 ax) d2
       replace d3 := kept_cell g3 (b := w.heap.size + 1) (o := 3) (v := .int .i32 ay) d3
       replace d4 := kept_cell g3 (b := w.heap.size + 1) (o := 4) (v := .int .i32 m) d4
       replace d5 := kept_cell g3 (b := w.heap.size + 1) (o := 5) (v := .int .i32 o) d5
       replace d6 := kept_cell g3 (b := w.heap.size + 1) (o := 6) (v := .int .i32 px) d6
       replace d7 := kept_cell g3 (b := w.heap.size + 1) (o := 7) (v := .int .i32 py) d7
       replace d8 := kept_cell g3 (b := w.heap.size + 1) (o := 8) (v := .int .i32 vx) d8
       replace d9 := kept_cell g3 (b := w.heap.size + 1) (o := 9) (v := .int .i32 vy) d9
       replace gg := grown_trans gg g3
       have zc_w3 : w.heap.size < w3.heap.size := World.block_lt_of_cell? _ _ c0
       have zd_w3 : w.heap.size + 1 < w3.heap.size := World.block_lt_of_cell? _ _ d0)
    | ((with_reducible refine (F1.out _).mono ?_); rintro e w4 ⟨rfl, g4⟩
       replace c0 := kept_cell g4 (b := w.heap.size) (o := 0) (v := .int .u32 k) c0
       replace c1 := kept_cell g4 (b := w.heap.size) (o := 1) (v := .int .i32 r) c1
       replace c2 := kept_cell g4 (b := w.heap.size) (o := 2) (v := .int .i32 ax) c2
       replace c3 := kept_cell g4 (b := w.heap.size) (o := 3) (v := .int .i32 ay) c3
       replace c4 := kept_cell g4 (b := w.heap.size) (o := 4) (v := .int .i32 m) c4
       replace c5 := kept_cell g4 (b := w.heap.size) (o := 5) (v := .int .i32 o) c5
       replace c6 := kept_cell g4 (b := w.heap.size) (o := 6) (v := .int .i32 px) c6
       replace c7 := kept_cell g4 (b := w.heap.size) (o := 7) (v := .int .i32 py) c7
       replace c8 := kept_cell g4 (b := w.heap.size) (o := 8) (v := .int .i32 vx) c8
       replace c9 := kept_cell g4 (b := w.heap.size) (o := 9) (v := .int .i32 vy) c9
       replace d0 := kept_cell g4 (b := w.heap.size + 1) (o := 0) (v := .int .u32 k) d0
       replace d1 := kept_cell g4 (b := w.heap.size + 1) (o := 1) (v := .int .i32 rr) d1
       replace d2 := kept_cell g4 (b := w.heap.size + 1) (o := 2) (v := .int .i32 ax) d2
       replace d3 := kept_cell g4 (b := w.heap.size + 1) (o := 3) (v := .int .i32 ay) d3
       replace d4 := kept_cell g4 (b := w.heap.size + 1) (o := 4) (v := .int .i32 m) d4
       replace d5 := kept_cell g4 (b := w.heap.size + 1) (o := 5) (v := .int .i32 o) d5
       replace d6 := kept_cell g4 (b := w.heap.size + 1) (o := 6) (v := .int .i32 px) d6
       replace d7 := kept_cell g4 (b := w.heap.size + 1) (o := 7) (v := .int .i32 py) d7
       replace d8 := kept_cell g4 (b := w.heap.size + 1) (o := 8) (v := .int .i32 vx) d8
       replace d9 := kept_cell g4 (b := w.heap.size + 1) (o := 9) (v := .int .i32 vy) d9
       replace gg := grown_trans gg g4
       have zc_w4 : w.heap.size < w4.heap.size := World.block_lt_of_cell? _ _ c0
       have zd_w4 : w.heap.size + 1 < w4.heap.size := World.block_lt_of_cell? _ _ d0)
    | ((with_reducible refine (F2.out _).mono ?_); rintro e w5 ⟨rfl, g5⟩
       replace c0 := kept_cell g5 (b := w.heap.size) (o := 0) (v := .int .u32 k) (alloc_one c0)
       replace c1 := kept_cell g5 (b := w.heap.size) (o := 1) (v := .int .i32 r) (alloc_one c1)
       replace c2 := kept_cell g5 (b := w.heap.size) (o := 2) (v := .int .i32 ax) (alloc_one c2)
       replace c3 := kept_cell g5 (b := w.heap.size) (o := 3) (v := .int .i32 ay) (alloc_one c3)
       replace c4 := kept_cell g5 (b := w.heap.size) (o := 4) (v := .int .i32 m) (alloc_one c4)
       replace c5 := kept_cell g5 (b := w.heap.size) (o := 5) (v := .int .i32 o) (alloc_one c5)
       replace c6 := kept_cell g5 (b := w.heap.size) (o := 6) (v := .int .i32 px) (alloc_one c6)
       replace c7 := kept_cell g5 (b := w.heap.size) (o := 7) (v := .int .i32 py) (alloc_one c7)
       replace c8 := kept_cell g5 (b := w.heap.size) (o := 8) (v := .int .i32 vx) (alloc_one c8)
       replace c9 := kept_cell g5 (b := w.heap.size) (o := 9) (v := .int .i32 vy) (alloc_one c9)
       replace d0 := kept_cell g5 (b := w.heap.size + 1) (o := 0) (v := .int .u32 k) (alloc_one d0)
       replace d1 := kept_cell g5 (b := w.heap.size + 1) (o := 1) (v := .int .i32 rr) (alloc_one d1)
       replace d2 := kept_cell g5 (b := w.heap.size + 1) (o := 2) (v := .int .i32 ax) (alloc_one d2)
       replace d3 := kept_cell g5 (b := w.heap.size + 1) (o := 3) (v := .int .i32 ay) (alloc_one d3)
       replace d4 := kept_cell g5 (b := w.heap.size + 1) (o := 4) (v := .int .i32 m) (alloc_one d4)
       replace d5 := kept_cell g5 (b := w.heap.size + 1) (o := 5) (v := .int .i32 o) (alloc_one d5)
       replace d6 := kept_cell g5 (b := w.heap.size + 1) (o := 6) (v := .int .i32 px) (alloc_one d6)
       replace d7 := kept_cell g5 (b := w.heap.size + 1) (o := 7) (v := .int .i32 py) (alloc_one d7)
       replace d8 := kept_cell g5 (b := w.heap.size + 1) (o := 8) (v := .int .i32 vx) (alloc_one d8)
       replace d9 := kept_cell g5 (b := w.heap.size + 1) (o := 9) (v := .int .i32 vy) (alloc_one d9)
       have u0 := kept_cell g5 (b := w4.heap.size) (o := 0) (v := .int .i32 a0) (by (repeat (first | rw [World.cell?_drew] | rw [World.cell?_alloc_past _ _ _ (by first | (simp; done) | (simp; omega))])); rw [World.cell?_alloc_at _ _ _ _ (by simp)]; rfl)
       have u1 := kept_cell g5 (b := w4.heap.size) (o := 1) (v := .int .i32 a1) (by (repeat (first | rw [World.cell?_drew] | rw [World.cell?_alloc_past _ _ _ (by first | (simp; done) | (simp; omega))])); rw [World.cell?_alloc_at _ _ _ _ (by simp)]; rfl)
       have u2 := kept_cell g5 (b := w4.heap.size) (o := 2) (v := .int .i32 a2) (by (repeat (first | rw [World.cell?_drew] | rw [World.cell?_alloc_past _ _ _ (by first | (simp; done) | (simp; omega))])); rw [World.cell?_alloc_at _ _ _ _ (by simp)]; rfl)
       have u3 := kept_cell g5 (b := w4.heap.size) (o := 3) (v := .int .i32 a3) (by (repeat (first | rw [World.cell?_drew] | rw [World.cell?_alloc_past _ _ _ (by first | (simp; done) | (simp; omega))])); rw [World.cell?_alloc_at _ _ _ _ (by simp)]; rfl)
       replace gg := grown_trans (gg.alloc _ _) g5
       have zc_w5 : w.heap.size < w5.heap.size := World.block_lt_of_cell? _ _ c0
       have zd_w5 : w.heap.size + 1 < w5.heap.size := World.block_lt_of_cell? _ _ d0
       have zu_w5 : w4.heap.size < w5.heap.size := World.block_lt_of_cell? _ _ u0))
  go_region_held3 (fun w' => w'.cell? ⟨w.heap.size, 0, none⟩ = some (.int .u32 k) ∧ w'.cell? ⟨w.heap.size, 1, none⟩ = some (.int .i32 r) ∧ w'.cell? ⟨w.heap.size, 2, none⟩ = some (.int .i32 ax) ∧ w'.cell? ⟨w.heap.size, 3, none⟩ = some (.int .i32 ay) ∧ w'.cell? ⟨w.heap.size, 4, none⟩ = some (.int .i32 m) ∧ w'.cell? ⟨w.heap.size, 5, none⟩ = some (.int .i32 o) ∧ w'.cell? ⟨w.heap.size, 6, none⟩ = some (.int .i32 px) ∧ w'.cell? ⟨w.heap.size, 7, none⟩ = some (.int .i32 py) ∧ w'.cell? ⟨w.heap.size, 8, none⟩ = some (.int .i32 vx) ∧ w'.cell? ⟨w.heap.size, 9, none⟩ = some (.int .i32 vy) ∧ w'.cell? ⟨w.heap.size + 1, 0, none⟩ = some (.int .u32 k) ∧ w'.cell? ⟨w.heap.size + 1, 1, none⟩ = some (.int .i32 rr) ∧ w'.cell? ⟨w.heap.size + 1, 2, none⟩ = some (.int .i32 ax) ∧ w'.cell? ⟨w.heap.size + 1, 3, none⟩ = some (.int .i32 ay) ∧ w'.cell? ⟨w.heap.size + 1, 4, none⟩ = some (.int .i32 m) ∧ w'.cell? ⟨w.heap.size + 1, 5, none⟩ = some (.int .i32 o) ∧ w'.cell? ⟨w.heap.size + 1, 6, none⟩ = some (.int .i32 px) ∧ w'.cell? ⟨w.heap.size + 1, 7, none⟩ = some (.int .i32 py) ∧ w'.cell? ⟨w.heap.size + 1, 8, none⟩ = some (.int .i32 vx) ∧ w'.cell? ⟨w.heap.size + 1, 9, none⟩ = some (.int .i32 vy) ∧ w'.cell? ⟨w4.heap.size, 0, none⟩ = some (.int .i32 a0) ∧ w'.cell? ⟨w4.heap.size, 1, none⟩ = some (.int .i32 a1) ∧ w'.cell? ⟨w4.heap.size, 2, none⟩ = some (.int .i32 a2) ∧ w'.cell? ⟨w4.heap.size, 3, none⟩ = some (.int .i32 a3) ∧ w'.cell? ⟨w5.heap.size, 0, none⟩ = some (.int .i32 b0) ∧ w'.cell? ⟨w5.heap.size, 1, none⟩ = some (.int .i32 b1) ∧ w'.cell? ⟨w5.heap.size, 2, none⟩ = some (.int .i32 b2) ∧ w'.cell? ⟨w5.heap.size, 3, none⟩ = some (.int .i32 b3) ∧ Grown w w')
    (first
      | (with_reducible assumption)
      | exact ⟨by rw [World.cell?_drew]; exact (alloc_one c0), by rw [World.cell?_drew]; exact (alloc_one c1), by rw [World.cell?_drew]; exact (alloc_one c2), by rw [World.cell?_drew]; exact (alloc_one c3), by rw [World.cell?_drew]; exact (alloc_one c4), by rw [World.cell?_drew]; exact (alloc_one c5), by rw [World.cell?_drew]; exact (alloc_one c6), by rw [World.cell?_drew]; exact (alloc_one c7), by rw [World.cell?_drew]; exact (alloc_one c8), by rw [World.cell?_drew]; exact (alloc_one c9), by rw [World.cell?_drew]; exact (alloc_one d0), by rw [World.cell?_drew]; exact (alloc_one d1), by rw [World.cell?_drew]; exact (alloc_one d2), by rw [World.cell?_drew]; exact (alloc_one d3), by rw [World.cell?_drew]; exact (alloc_one d4), by rw [World.cell?_drew]; exact (alloc_one d5), by rw [World.cell?_drew]; exact (alloc_one d6), by rw [World.cell?_drew]; exact (alloc_one d7), by rw [World.cell?_drew]; exact (alloc_one d8), by rw [World.cell?_drew]; exact (alloc_one d9), by rw [World.cell?_drew]; exact (alloc_one u0), by rw [World.cell?_drew]; exact (alloc_one u1), by rw [World.cell?_drew]; exact (alloc_one u2), by rw [World.cell?_drew]; exact (alloc_one u3), by (repeat (first | rw [World.cell?_drew] | rw [World.cell?_alloc_past _ _ _ (by first | (simp; done) | (simp; omega))])); rw [World.cell?_alloc_at _ _ _ _ (by simp)]; rfl, by (repeat (first | rw [World.cell?_drew] | rw [World.cell?_alloc_past _ _ _ (by first | (simp; done) | (simp; omega))])); rw [World.cell?_alloc_at _ _ _ _ (by simp)]; rfl, by (repeat (first | rw [World.cell?_drew] | rw [World.cell?_alloc_past _ _ _ (by first | (simp; done) | (simp; omega))])); rw [World.cell?_alloc_at _ _ _ _ (by simp)]; rfl, by (repeat (first | rw [World.cell?_drew] | rw [World.cell?_alloc_past _ _ _ (by first | (simp; done) | (simp; omega))])); rw [World.cell?_alloc_at _ _ _ _ (by simp)]; rfl, (gg.alloc _ _).drew⟩
      | (go_split_ands; exact ⟨kept_cell g (by assumption), kept_cell g (by assumption), kept_cell g (by assumption), kept_cell g (by assumption), kept_cell g (by assumption), kept_cell g (by assumption), kept_cell g (by assumption), kept_cell g (by assumption), kept_cell g (by assumption), kept_cell g (by assumption), kept_cell g (by assumption), kept_cell g (by assumption), kept_cell g (by assumption), kept_cell g (by assumption), kept_cell g (by assumption), kept_cell g (by assumption), kept_cell g (by assumption), kept_cell g (by assumption), kept_cell g (by assumption), kept_cell g (by assumption), kept_cell g (by assumption), kept_cell g (by assumption), kept_cell g (by assumption), kept_cell g (by assumption), kept_cell g (by assumption), kept_cell g (by assumption), kept_cell g (by assumption), kept_cell g (by assumption), grown_trans (by assumption) g⟩)
      | (go_split_ands; exact ⟨by rw [World.cell?_drew]; assumption, by rw [World.cell?_drew]; assumption, by rw [World.cell?_drew]; assumption, by rw [World.cell?_drew]; assumption, by rw [World.cell?_drew]; assumption, by rw [World.cell?_drew]; assumption, by rw [World.cell?_drew]; assumption, by rw [World.cell?_drew]; assumption, by rw [World.cell?_drew]; assumption, by rw [World.cell?_drew]; assumption, by rw [World.cell?_drew]; assumption, by rw [World.cell?_drew]; assumption, by rw [World.cell?_drew]; assumption, by rw [World.cell?_drew]; assumption, by rw [World.cell?_drew]; assumption, by rw [World.cell?_drew]; assumption, by rw [World.cell?_drew]; assumption, by rw [World.cell?_drew]; assumption, by rw [World.cell?_drew]; assumption, by rw [World.cell?_drew]; assumption, by rw [World.cell?_drew]; assumption, by rw [World.cell?_drew]; assumption, by rw [World.cell?_drew]; assumption, by rw [World.cell?_drew]; assumption, by rw [World.cell?_drew]; assumption, by rw [World.cell?_drew]; assumption, by rw [World.cell?_drew]; assumption, by rw [World.cell?_drew]; assumption, Grown.drew (by assumption)⟩))
    (first
    | ((with_reducible refine (U1.out _).mono ?_); rintro e w' ⟨rfl, g⟩)
    | ((with_reducible refine (M1.out _).mono ?_); rintro e w' ⟨rfl, g⟩)
    | ((with_reducible refine (V1.out _).mono ?_); rintro e w' ⟨rfl, g⟩))
  go_wp2_with fail
  go_ret
  exact ⟨rfl, by go_split_ands; assumption⟩
/-- The law BoxGrows. -/
theorem bgl_all (AW : BAwake) (O : BOps) (k r ax ay m o px py vx vy rr : Int) (w : World) : Calls Try.prog 7 #[.agg #[.int .u32 k, .int .i32 r, .int .i32 ax, .int .i32 ay, .int .i32 m, .int .i32 o, .int .i32 px, .int .i32 py, .int .i32 vx, .int .i32 vy], .int .i32 rr] w fun e w' => e = .returned (.bool true) ∧ Grown w w' := by
  by_cases e1 : chk r ax ay m o px py vx vy = 0
  rotate_left
  · exact bgl_bad1 k r ax ay m o px py vx vy rr _ _ (Lib.hid AW) (Lib.hid (rck k r ax ay m o px py vx vy _ rfl)) (Lib.hid (rck k rr ax ay m o px py vx vy _ rfl)) (bne_iff_ne.2 e1) w
  by_cases e2 : chk rr ax ay m o px py vx vy = 0
  rotate_left
  · exact bgl_bad2 k r ax ay m o px py vx vy rr _ _ (Lib.hid AW) (Lib.hid (rck k r ax ay m o px py vx vy _ rfl)) (Lib.hid (rck k rr ax ay m o px py vx vy _ rfl)) (by rw [e1]; rfl) (bne_iff_ne.2 e2) w
  by_cases e3 : rr < r
  · exact bgl_bad3 k r ax ay m o px py vx vy rr _ _ (Lib.hid AW) (Lib.hid (rck k r ax ay m o px py vx vy _ rfl)) (Lib.hid (rck k rr ax ay m o px py vx vy _ rfl)) (by rw [e1]; rfl) (by rw [e2]; rfl) e3 w
  obtain ⟨v1, ⟨v2, v3⟩, v4, v5⟩ := chk_in e1
  obtain ⟨u1, _⟩ := chk_in e2
  obtain ⟨x, hx⟩ : ∃ x, max ax (-ax) + r = x := ⟨_, rfl⟩
  obtain ⟨y, hy⟩ : ∃ y, max ay (-ay) + r = y := ⟨_, rfl⟩
  obtain ⟨X, hX⟩ : ∃ X, max ax (-ax) + rr = X := ⟨_, rfl⟩
  obtain ⟨Y, hY⟩ : ∃ Y, max ay (-ay) + rr = Y := ⟨_, rfl⟩
  have eA : empB (px - x) (py - y) (px + x) (py + y) = false := decide_eq_false (by omega)
  have eB : empB (px - X) (py - Y) (px + X) (py + Y) = false := decide_eq_false (by omega)
  have ov : ovlB (px - x) (py - y) (px + x) (py + y) (px - X) (py - Y) (px + X) (py + Y) = true := decide_eq_true (by omega)
  refine bgl_main k r ax ay m o px py vx vy rr _ _ _ _ _ _ _ _ (rr - r) (Lib.hid AW) (Lib.hid (rck k r ax ay m o px py vx vy _ e1)) (Lib.hid (rck k rr ax ay m o px py vx vy _ e2)) (by omega) (Lib.hid (O.of k r ax ay m o px py vx vy x y v2 v3 v1 hx hy (by omega) (by omega))) (Lib.hid (O.of k rr ax ay m o px py vx vy X Y v2 v3 u1 hX hY (by omega) (by omega))) (Lib.hid (O.union _ _ _ _ _ _ _ _ _ _ _ _ ?_)) (Lib.hid (O.meet _ _ _ _ _ _ _ _ _ _ _ _ ?_)) (Lib.hid ?_) ?_ ?_ ?_ w
  · unfold uniQ
    rw [eA, eB, if_neg (by simp), if_neg (by simp)]
    simp only [Prod.mk.injEq]
    omega
  · unfold meeQ
    rw [ov, if_pos rfl]
    simp only [Prod.mk.injEq]
    omega
  · have := O.overlap (px - x) (py - y) (px + x) (py + y) (px - X) (py - Y) (px + X) (py + Y)
    rw [ov] at this
    exact this
  · unfold wrap32; omega
  · unfold wrap32; omega
  · unfold wrap32; omega
end Go.Proofs.Ytpbajmgjnpkgkaa
