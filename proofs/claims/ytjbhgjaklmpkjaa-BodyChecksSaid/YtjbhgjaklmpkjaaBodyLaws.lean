/-
  Package body: the walk of the law BodyMirrors.
-/
import Derived.Test.YtjbhgjaklmpkjaaBodyCon
namespace Go.Proofs.Ytjbhgjaklmpkjaa
open Go.RowKit Go.Lib

theorem alloc_one {W : World} {a : Addr} {v : Value} {o : Obj} (h : W.cell? a = some v) : (W.alloc o).cell? a = some v := by
  rw [World.cell?_alloc_some _ _ _ (by rw [h]; rfl)]; exact h
theorem chk0 {r ax ay m o px py vx vy : Int} (h : chk r ax ay m o px py vx vy = 0) : (4096 ≤ r ∧ r ≤ 4194304) ∧ ((-4194304 ≤ ax ∧ ax ≤ 4194304) ∧ (-4194304 ≤ ay ∧ ay ≤ 4194304)) ∧ (0 ≤ m ∧ m ≤ 1048576) ∧ (0 ≤ o ∧ o ≤ 65536) ∧ ((-1073741824 ≤ px ∧ px ≤ 1073741824) ∧ (-1073741824 ≤ py ∧ py ≤ 1073741824)) ∧ ((-16777216 ≤ vx ∧ vx ≤ 16777216) ∧ (-16777216 ≤ vy ∧ vy ≤ 16777216)) := by
  unfold chk at h
  split at h
  · split at h
    · split at h
      · split at h
        · split at h
          · split at h
            · rename_i h1 h2 h3 h4 h5 h6
              exact ⟨h1, h2, h3, h4, h5, h6⟩
            · omega
          · omega
        · omega
      · omega
    · omega
  · omega
theorem chk_ok {r ax ay m o px py vx vy : Int} (h : (4096 ≤ r ∧ r ≤ 4194304) ∧ ((-4194304 ≤ ax ∧ ax ≤ 4194304) ∧ (-4194304 ≤ ay ∧ ay ≤ 4194304)) ∧ (0 ≤ m ∧ m ≤ 1048576) ∧ (0 ≤ o ∧ o ≤ 65536) ∧ ((-1073741824 ≤ px ∧ px ≤ 1073741824) ∧ (-1073741824 ≤ py ∧ py ≤ 1073741824)) ∧ ((-16777216 ≤ vx ∧ vx ≤ 16777216) ∧ (-16777216 ≤ vy ∧ vy ≤ 16777216))) : chk r ax ay m o px py vx vy = 0 := by
  obtain ⟨h1, h2, h3, h4, h5, h6⟩ := h
  unfold chk
  rw [if_pos h1, if_pos h2, if_pos h3, if_pos h4, if_pos h5, if_pos h6]
theorem wr32 {n q : Int} (h : wrap32 n = q) : IntKind.i32.wrap n = q := by rw [← h, IntKind.wrap_i32]; unfold wrap32; rfl

set_option maxRecDepth 100000 in
set_option maxHeartbeats 2000000 in
theorem mirrors_bad (k r ax ay m o px py vx vy key e : Int) (A : Hid BodyAwake) (Ck : Hid (Rck k r ax ay m o px py vx vy e)) (he : (e != 0) = true) (w : World) :
    Calls Try.prog 6 #[.agg #[.int .u32 k, .int .i32 r, .int .i32 ax, .int .i32 ay, .int .i32 m, .int .i32 o, .int .i32 px, .int .i32 py, .int .i32 vx, .int .i32 vy], .int .u32 key] w fun e w' => e = .returned (.bool true) ∧ Grown w w' := by
  go_enter Try.func6, Try.ntmps6
  go_wp2_with (first
    | ((with_reducible refine (A.out _).mono ?_); rintro e w1 ⟨rfl, g1⟩
       (first | (replace gg := grown_trans gg g1) | (have b0 := kept_cell g1 (b := w.heap.size) (o := 0) (v := .int .u32 k) (by (repeat (first | rw [World.cell?_drew] | rw [World.cell?_alloc_past _ _ _ (by first | (simp; done) | (simp; omega))])); rw [World.cell?_alloc_at _ _ _ _ (by simp)]; rfl); have b1 := kept_cell g1 (b := w.heap.size) (o := 1) (v := .int .i32 r) (by (repeat (first | rw [World.cell?_drew] | rw [World.cell?_alloc_past _ _ _ (by first | (simp; done) | (simp; omega))])); rw [World.cell?_alloc_at _ _ _ _ (by simp)]; rfl); have b2 := kept_cell g1 (b := w.heap.size) (o := 2) (v := .int .i32 ax) (by (repeat (first | rw [World.cell?_drew] | rw [World.cell?_alloc_past _ _ _ (by first | (simp; done) | (simp; omega))])); rw [World.cell?_alloc_at _ _ _ _ (by simp)]; rfl); have b3 := kept_cell g1 (b := w.heap.size) (o := 3) (v := .int .i32 ay) (by (repeat (first | rw [World.cell?_drew] | rw [World.cell?_alloc_past _ _ _ (by first | (simp; done) | (simp; omega))])); rw [World.cell?_alloc_at _ _ _ _ (by simp)]; rfl); have b4 := kept_cell g1 (b := w.heap.size) (o := 4) (v := .int .i32 m) (by (repeat (first | rw [World.cell?_drew] | rw [World.cell?_alloc_past _ _ _ (by first | (simp; done) | (simp; omega))])); rw [World.cell?_alloc_at _ _ _ _ (by simp)]; rfl); have b5 := kept_cell g1 (b := w.heap.size) (o := 5) (v := .int .i32 o) (by (repeat (first | rw [World.cell?_drew] | rw [World.cell?_alloc_past _ _ _ (by first | (simp; done) | (simp; omega))])); rw [World.cell?_alloc_at _ _ _ _ (by simp)]; rfl); have b6 := kept_cell g1 (b := w.heap.size) (o := 6) (v := .int .i32 px) (by (repeat (first | rw [World.cell?_drew] | rw [World.cell?_alloc_past _ _ _ (by first | (simp; done) | (simp; omega))])); rw [World.cell?_alloc_at _ _ _ _ (by simp)]; rfl); have b7 := kept_cell g1 (b := w.heap.size) (o := 7) (v := .int .i32 py) (by (repeat (first | rw [World.cell?_drew] | rw [World.cell?_alloc_past _ _ _ (by first | (simp; done) | (simp; omega))])); rw [World.cell?_alloc_at _ _ _ _ (by simp)]; rfl); have b8 := kept_cell g1 (b := w.heap.size) (o := 8) (v := .int .i32 vx) (by (repeat (first | rw [World.cell?_drew] | rw [World.cell?_alloc_past _ _ _ (by first | (simp; done) | (simp; omega))])); rw [World.cell?_alloc_at _ _ _ _ (by simp)]; rfl); have b9 := kept_cell g1 (b := w.heap.size) (o := 9) (v := .int .i32 vy) (by (repeat (first | rw [World.cell?_drew] | rw [World.cell?_alloc_past _ _ _ (by first | (simp; done) | (simp; omega))])); rw [World.cell?_alloc_at _ _ _ _ (by simp)]; rfl); have gg := grown_trans ((Grown.refl _).alloc _ _) g1)))
    | ((with_reducible refine (Ck.out _).mono ?_); rintro e w2 ⟨rfl, g2⟩
       replace b0 := kept_cell g2 (b := w.heap.size) (o := 0) (v := .int .u32 k) b0
       replace b1 := kept_cell g2 (b := w.heap.size) (o := 1) (v := .int .i32 r) b1
       replace b2 := kept_cell g2 (b := w.heap.size) (o := 2) (v := .int .i32 ax) b2
       replace b3 := kept_cell g2 (b := w.heap.size) (o := 3) (v := .int .i32 ay) b3
       replace b4 := kept_cell g2 (b := w.heap.size) (o := 4) (v := .int .i32 m) b4
       replace b5 := kept_cell g2 (b := w.heap.size) (o := 5) (v := .int .i32 o) b5
       replace b6 := kept_cell g2 (b := w.heap.size) (o := 6) (v := .int .i32 px) b6
       replace b7 := kept_cell g2 (b := w.heap.size) (o := 7) (v := .int .i32 py) b7
       replace b8 := kept_cell g2 (b := w.heap.size) (o := 8) (v := .int .i32 vx) b8
       replace b9 := kept_cell g2 (b := w.heap.size) (o := 9) (v := .int .i32 vy) b9
       replace gg := grown_trans gg g2
       have zb_w2 : w.heap.size < w2.heap.size := World.block_lt_of_cell? _ _ b0))
  go_ret
  exact ⟨rfl, gg⟩

set_option maxRecDepth 100000 in
set_option maxHeartbeats 4000000 in
theorem mirrors_good (k r ax ay m o px py vx vy key nax nay npx npy nvx nvy x y : Int) (q : Bool) (A : Hid BodyAwake) (Ck : Hid (Rck k r ax ay m o px py vx vy 0)) (h0 : wrap32 (-ax) = nax) (h1 : wrap32 (-ay) = nay) (h2 : wrap32 (-px) = npx) (h3 : wrap32 (-py) = npy) (h4 : wrap32 (-vx) = nvx) (h5 : wrap32 (-vy) = nvy)
    (X1 : Hid (Ext k r ax ay m o px py vx vy x y)) (X2 : Hid (Ext key r nax nay m o npx npy nvx nvy x y)) (K1 : Hid (Chk key r nax nay m o npx npy nvx nvy 0)) (I1 : Hid (Cir key r nax nay m o npx npy nvx nvy q)) (I2 : Hid (Cir k r ax ay m o px py vx vy q)) (w : World) :
    Calls Try.prog 6 #[.agg #[.int .u32 k, .int .i32 r, .int .i32 ax, .int .i32 ay, .int .i32 m, .int .i32 o, .int .i32 px, .int .i32 py, .int .i32 vx, .int .i32 vy], .int .u32 key] w fun e w' => e = .returned (.bool true) ∧ Grown w w' := by
  have f0 := wr32 h0
  have f1 := wr32 h1
  have f2 := wr32 h2
  have f3 := wr32 h3
  have f4 := wr32 h4
  have f5 := wr32 h5
  cases q
  all_goals
    go_enter Try.func6, Try.ntmps6
    go_wp2_with (first
      | ((with_reducible refine (A.out _).mono ?_); rintro e w1 ⟨rfl, g1⟩
         (first | (replace gg := grown_trans gg g1) | (have b0 := kept_cell g1 (b := w.heap.size) (o := 0) (v := .int .u32 k) (by (repeat (first | rw [World.cell?_drew] | rw [World.cell?_alloc_past _ _ _ (by first | (simp; done) | (simp; omega))])); rw [World.cell?_alloc_at _ _ _ _ (by simp)]; rfl); have b1 := kept_cell g1 (b := w.heap.size) (o := 1) (v := .int .i32 r) (by (repeat (first | rw [World.cell?_drew] | rw [World.cell?_alloc_past _ _ _ (by first | (simp; done) | (simp; omega))])); rw [World.cell?_alloc_at _ _ _ _ (by simp)]; rfl); have b2 := kept_cell g1 (b := w.heap.size) (o := 2) (v := .int .i32 ax) (by (repeat (first | rw [World.cell?_drew] | rw [World.cell?_alloc_past _ _ _ (by first | (simp; done) | (simp; omega))])); rw [World.cell?_alloc_at _ _ _ _ (by simp)]; rfl); have b3 := kept_cell g1 (b := w.heap.size) (o := 3) (v := .int .i32 ay) (by (repeat (first | rw [World.cell?_drew] | rw [World.cell?_alloc_past _ _ _ (by first | (simp; done) | (simp; omega))])); rw [World.cell?_alloc_at _ _ _ _ (by simp)]; rfl); have b4 := kept_cell g1 (b := w.heap.size) (o := 4) (v := .int .i32 m) (by (repeat (first | rw [World.cell?_drew] | rw [World.cell?_alloc_past _ _ _ (by first | (simp; done) | (simp; omega))])); rw [World.cell?_alloc_at _ _ _ _ (by simp)]; rfl); have b5 := kept_cell g1 (b := w.heap.size) (o := 5) (v := .int .i32 o) (by (repeat (first | rw [World.cell?_drew] | rw [World.cell?_alloc_past _ _ _ (by first | (simp; done) | (simp; omega))])); rw [World.cell?_alloc_at _ _ _ _ (by simp)]; rfl); have b6 := kept_cell g1 (b := w.heap.size) (o := 6) (v := .int .i32 px) (by (repeat (first | rw [World.cell?_drew] | rw [World.cell?_alloc_past _ _ _ (by first | (simp; done) | (simp; omega))])); rw [World.cell?_alloc_at _ _ _ _ (by simp)]; rfl); have b7 := kept_cell g1 (b := w.heap.size) (o := 7) (v := .int .i32 py) (by (repeat (first | rw [World.cell?_drew] | rw [World.cell?_alloc_past _ _ _ (by first | (simp; done) | (simp; omega))])); rw [World.cell?_alloc_at _ _ _ _ (by simp)]; rfl); have b8 := kept_cell g1 (b := w.heap.size) (o := 8) (v := .int .i32 vx) (by (repeat (first | rw [World.cell?_drew] | rw [World.cell?_alloc_past _ _ _ (by first | (simp; done) | (simp; omega))])); rw [World.cell?_alloc_at _ _ _ _ (by simp)]; rfl); have b9 := kept_cell g1 (b := w.heap.size) (o := 9) (v := .int .i32 vy) (by (repeat (first | rw [World.cell?_drew] | rw [World.cell?_alloc_past _ _ _ (by first | (simp; done) | (simp; omega))])); rw [World.cell?_alloc_at _ _ _ _ (by simp)]; rfl); have gg := grown_trans ((Grown.refl _).alloc _ _) g1)))
      | ((with_reducible refine (Ck.out _).mono ?_); rintro e w2 ⟨rfl, g2⟩
         replace b0 := kept_cell g2 (b := w.heap.size) (o := 0) (v := .int .u32 k) b0
         replace b1 := kept_cell g2 (b := w.heap.size) (o := 1) (v := .int .i32 r) b1
         replace b2 := kept_cell g2 (b := w.heap.size) (o := 2) (v := .int .i32 ax) b2
         replace b3 := kept_cell g2 (b := w.heap.size) (o := 3) (v := .int .i32 ay) b3
         replace b4 := kept_cell g2 (b := w.heap.size) (o := 4) (v := .int .i32 m) b4
         replace b5 := kept_cell g2 (b := w.heap.size) (o := 5) (v := .int .i32 o) b5
         replace b6 := kept_cell g2 (b := w.heap.size) (o := 6) (v := .int .i32 px) b6
         replace b7 := kept_cell g2 (b := w.heap.size) (o := 7) (v := .int .i32 py) b7
         replace b8 := kept_cell g2 (b := w.heap.size) (o := 8) (v := .int .i32 vx) b8
         replace b9 := kept_cell g2 (b := w.heap.size) (o := 9) (v := .int .i32 vy) b9
         replace gg := grown_trans gg g2
         have zb_w2 : w.heap.size < w2.heap.size := World.block_lt_of_cell? _ _ b0)
      | ((with_reducible refine (X1.out _).mono ?_); rintro e w3 ⟨rfl, g3⟩
         replace b0 := kept_cell g3 (b := w.heap.size) (o := 0) (v := .int .u32 k) (alloc_one b0)
         replace b1 := kept_cell g3 (b := w.heap.size) (o := 1) (v := .int .i32 r) (alloc_one b1)
         replace b2 := kept_cell g3 (b := w.heap.size) (o := 2) (v := .int .i32 ax) (alloc_one b2)
         replace b3 := kept_cell g3 (b := w.heap.size) (o := 3) (v := .int .i32 ay) (alloc_one b3)
         replace b4 := kept_cell g3 (b := w.heap.size) (o := 4) (v := .int .i32 m) (alloc_one b4)
         replace b5 := kept_cell g3 (b := w.heap.size) (o := 5) (v := .int .i32 o) (alloc_one b5)
         replace b6 := kept_cell g3 (b := w.heap.size) (o := 6) (v := .int .i32 px) (alloc_one b6)
         replace b7 := kept_cell g3 (b := w.heap.size) (o := 7) (v := .int .i32 py) (alloc_one b7)
         replace b8 := kept_cell g3 (b := w.heap.size) (o := 8) (v := .int .i32 vx) (alloc_one b8)
         replace b9 := kept_cell g3 (b := w.heap.size) (o := 9) (v := .int .i32 vy) (alloc_one b9)
         have c0 := kept_cell g3 (b := w2.heap.size) (o := 0) (v := .int .u32 key) (by (repeat (first | rw [World.cell?_drew] | rw [World.cell?_alloc_past _ _ _ (by first | (simp; done) | (simp; omega))])); rw [World.cell?_alloc_at _ _ _ _ (by simp)]; rfl)
         have c1 := kept_cell g3 (b := w2.heap.size) (o := 1) (v := .int .i32 r) (by (repeat (first | rw [World.cell?_drew] | rw [World.cell?_alloc_past _ _ _ (by first | (simp; done) | (simp; omega))])); rw [World.cell?_alloc_at _ _ _ _ (by simp)]; rfl)
         have c2 := kept_cell g3 (b := w2.heap.size) (o := 2) (v := .int .i32 nax) (by (repeat (first | rw [World.cell?_drew] | rw [World.cell?_alloc_past _ _ _ (by first | (simp; done) | (simp; omega))])); rw [World.cell?_alloc_at _ _ _ _ (by simp)]; rfl)
         have c3 := kept_cell g3 (b := w2.heap.size) (o := 3) (v := .int .i32 nay) (by (repeat (first | rw [World.cell?_drew] | rw [World.cell?_alloc_past _ _ _ (by first | (simp; done) | (simp; omega))])); rw [World.cell?_alloc_at _ _ _ _ (by simp)]; rfl)
         have c4 := kept_cell g3 (b := w2.heap.size) (o := 4) (v := .int .i32 m) (by (repeat (first | rw [World.cell?_drew] | rw [World.cell?_alloc_past _ _ _ (by first | (simp; done) | (simp; omega))])); rw [World.cell?_alloc_at _ _ _ _ (by simp)]; rfl)
         have c5 := kept_cell g3 (b := w2.heap.size) (o := 5) (v := .int .i32 o) (by (repeat (first | rw [World.cell?_drew] | rw [World.cell?_alloc_past _ _ _ (by first | (simp; done) | (simp; omega))])); rw [World.cell?_alloc_at _ _ _ _ (by simp)]; rfl)
         have c6 := kept_cell g3 (b := w2.heap.size) (o := 6) (v := .int .i32 npx) (by (repeat (first | rw [World.cell?_drew] | rw [World.cell?_alloc_past _ _ _ (by first | (simp; done) | (simp; omega))])); rw [World.cell?_alloc_at _ _ _ _ (by simp)]; rfl)
         have c7 := kept_cell g3 (b := w2.heap.size) (o := 7) (v := .int .i32 npy) (by (repeat (first | rw [World.cell?_drew] | rw [World.cell?_alloc_past _ _ _ (by first | (simp; done) | (simp; omega))])); rw [World.cell?_alloc_at _ _ _ _ (by simp)]; rfl)
         have c8 := kept_cell g3 (b := w2.heap.size) (o := 8) (v := .int .i32 nvx) (by (repeat (first | rw [World.cell?_drew] | rw [World.cell?_alloc_past _ _ _ (by first | (simp; done) | (simp; omega))])); rw [World.cell?_alloc_at _ _ _ _ (by simp)]; rfl)
         have c9 := kept_cell g3 (b := w2.heap.size) (o := 9) (v := .int .i32 nvy) (by (repeat (first | rw [World.cell?_drew] | rw [World.cell?_alloc_past _ _ _ (by first | (simp; done) | (simp; omega))])); rw [World.cell?_alloc_at _ _ _ _ (by simp)]; rfl)
         replace gg := grown_trans (gg.alloc _ _) g3)
      | ((with_reducible refine (X2.out _).mono ?_); rintro e w4 ⟨rfl, g4⟩
         replace b0 := kept_cell g4 (b := w.heap.size) (o := 0) (v := .int .u32 k) b0
         replace b1 := kept_cell g4 (b := w.heap.size) (o := 1) (v := .int .i32 r) b1
         replace b2 := kept_cell g4 (b := w.heap.size) (o := 2) (v := .int .i32 ax) b2
         replace b3 := kept_cell g4 (b := w.heap.size) (o := 3) (v := .int .i32 ay) b3
         replace b4 := kept_cell g4 (b := w.heap.size) (o := 4) (v := .int .i32 m) b4
         replace b5 := kept_cell g4 (b := w.heap.size) (o := 5) (v := .int .i32 o) b5
         replace b6 := kept_cell g4 (b := w.heap.size) (o := 6) (v := .int .i32 px) b6
         replace b7 := kept_cell g4 (b := w.heap.size) (o := 7) (v := .int .i32 py) b7
         replace b8 := kept_cell g4 (b := w.heap.size) (o := 8) (v := .int .i32 vx) b8
         replace b9 := kept_cell g4 (b := w.heap.size) (o := 9) (v := .int .i32 vy) b9
         replace c0 := kept_cell g4 (b := w2.heap.size) (o := 0) (v := .int .u32 key) c0
         replace c1 := kept_cell g4 (b := w2.heap.size) (o := 1) (v := .int .i32 r) c1
         replace c2 := kept_cell g4 (b := w2.heap.size) (o := 2) (v := .int .i32 nax) c2
         replace c3 := kept_cell g4 (b := w2.heap.size) (o := 3) (v := .int .i32 nay) c3
         replace c4 := kept_cell g4 (b := w2.heap.size) (o := 4) (v := .int .i32 m) c4
         replace c5 := kept_cell g4 (b := w2.heap.size) (o := 5) (v := .int .i32 o) c5
         replace c6 := kept_cell g4 (b := w2.heap.size) (o := 6) (v := .int .i32 npx) c6
         replace c7 := kept_cell g4 (b := w2.heap.size) (o := 7) (v := .int .i32 npy) c7
         replace c8 := kept_cell g4 (b := w2.heap.size) (o := 8) (v := .int .i32 nvx) c8
         replace c9 := kept_cell g4 (b := w2.heap.size) (o := 9) (v := .int .i32 nvy) c9
         replace gg := grown_trans gg g4))
    go_region_held3 (fun w' => w'.cell? ⟨w.heap.size, 0, none⟩ = some (.int .u32 k) ∧ w'.cell? ⟨w.heap.size, 1, none⟩ = some (.int .i32 r) ∧ w'.cell? ⟨w.heap.size, 2, none⟩ = some (.int .i32 ax) ∧ w'.cell? ⟨w.heap.size, 3, none⟩ = some (.int .i32 ay) ∧ w'.cell? ⟨w.heap.size, 4, none⟩ = some (.int .i32 m) ∧ w'.cell? ⟨w.heap.size, 5, none⟩ = some (.int .i32 o) ∧ w'.cell? ⟨w.heap.size, 6, none⟩ = some (.int .i32 px) ∧ w'.cell? ⟨w.heap.size, 7, none⟩ = some (.int .i32 py) ∧ w'.cell? ⟨w.heap.size, 8, none⟩ = some (.int .i32 vx) ∧ w'.cell? ⟨w.heap.size, 9, none⟩ = some (.int .i32 vy) ∧ w'.cell? ⟨w2.heap.size, 0, none⟩ = some (.int .u32 key) ∧ w'.cell? ⟨w2.heap.size, 1, none⟩ = some (.int .i32 r) ∧ w'.cell? ⟨w2.heap.size, 2, none⟩ = some (.int .i32 nax) ∧ w'.cell? ⟨w2.heap.size, 3, none⟩ = some (.int .i32 nay) ∧ w'.cell? ⟨w2.heap.size, 4, none⟩ = some (.int .i32 m) ∧ w'.cell? ⟨w2.heap.size, 5, none⟩ = some (.int .i32 o) ∧ w'.cell? ⟨w2.heap.size, 6, none⟩ = some (.int .i32 npx) ∧ w'.cell? ⟨w2.heap.size, 7, none⟩ = some (.int .i32 npy) ∧ w'.cell? ⟨w2.heap.size, 8, none⟩ = some (.int .i32 nvx) ∧ w'.cell? ⟨w2.heap.size, 9, none⟩ = some (.int .i32 nvy) ∧ Grown w w')
      (first
        | (with_reducible assumption)
        | exact ⟨by rw [World.cell?_drew]; exact b0, by rw [World.cell?_drew]; exact b1, by rw [World.cell?_drew]; exact b2, by rw [World.cell?_drew]; exact b3, by rw [World.cell?_drew]; exact b4, by rw [World.cell?_drew]; exact b5, by rw [World.cell?_drew]; exact b6, by rw [World.cell?_drew]; exact b7, by rw [World.cell?_drew]; exact b8, by rw [World.cell?_drew]; exact b9, by rw [World.cell?_drew]; exact c0, by rw [World.cell?_drew]; exact c1, by rw [World.cell?_drew]; exact c2, by rw [World.cell?_drew]; exact c3, by rw [World.cell?_drew]; exact c4, by rw [World.cell?_drew]; exact c5, by rw [World.cell?_drew]; exact c6, by rw [World.cell?_drew]; exact c7, by rw [World.cell?_drew]; exact c8, by rw [World.cell?_drew]; exact c9, (gg).drew⟩
        | (go_split_ands; exact ⟨kept_cell g (by assumption), kept_cell g (by assumption), kept_cell g (by assumption), kept_cell g (by assumption), kept_cell g (by assumption), kept_cell g (by assumption), kept_cell g (by assumption), kept_cell g (by assumption), kept_cell g (by assumption), kept_cell g (by assumption), kept_cell g (by assumption), kept_cell g (by assumption), kept_cell g (by assumption), kept_cell g (by assumption), kept_cell g (by assumption), kept_cell g (by assumption), kept_cell g (by assumption), kept_cell g (by assumption), kept_cell g (by assumption), kept_cell g (by assumption), grown_trans (by assumption) g⟩))
      (first
      | ((with_reducible refine (K1.out _).mono ?_); rintro e w' ⟨rfl, g⟩)
      | ((with_reducible refine (I1.out _).mono ?_); rintro e w' ⟨rfl, g⟩)
      | ((with_reducible refine (I2.out _).mono ?_); rintro e w' ⟨rfl, g⟩))
    go_wp2_with fail
    go_ret
    exact ⟨rfl, by go_split_ands; assumption⟩

theorem mirrors_all (k r ax ay m o px py vx vy key : Int) (w : World) : Calls Try.prog 6 #[.agg #[.int .u32 k, .int .i32 r, .int .i32 ax, .int .i32 ay, .int .i32 m, .int .i32 o, .int .i32 px, .int .i32 py, .int .i32 vx, .int .i32 vy], .int .u32 key] w fun e w' => e = .returned (.bool true) ∧ Grown w w' := by
  by_cases h : chk r ax ay m o px py vx vy = 0
  · obtain ⟨h1, ⟨h2, h3⟩, h4, h5, ⟨h6, h7⟩, h8, h9⟩ := chk0 h
    refine mirrors_good k r ax ay m o px py vx vy key (-ax) (-ay) (-px) (-py) (-vx) (-vy) (max ax (-ax) + r) (max ay (-ay) + r) (decide (ax = 0) && decide (ay = 0)) (Lib.hid body_awake) (Lib.hid (rck k r ax ay m o px py vx vy 0 h)) ?_ ?_ ?_ ?_ ?_ ?_ ?_ ?_ ?_ ?_ ?_ w
    · unfold wrap32; omega
    · unfold wrap32; omega
    · unfold wrap32; omega
    · unfold wrap32; omega
    · unfold wrap32; omega
    · unfold wrap32; omega
    · exact Lib.hid (ext_in _ _ _ _ _ _ _ _ _ _ _ _ h2 h3 h1 rfl rfl)
    · exact Lib.hid (ext_in _ _ _ _ _ _ _ _ _ _ _ _ ⟨by omega, by omega⟩ ⟨by omega, by omega⟩ h1 (by omega) (by omega))
    · exact Lib.hid (chk_of _ (chk_ok ⟨h1, ⟨⟨by omega, by omega⟩, ⟨by omega, by omega⟩⟩, h4, h5, ⟨⟨by omega, by omega⟩, ⟨by omega, by omega⟩⟩, ⟨by omega, by omega⟩, ⟨by omega, by omega⟩⟩))
    · exact Lib.hid (cir _ _ _ _ _ _ _ _ _ _ _ (by rw [show decide (-ax = 0) = decide (ax = 0) from decide_eq_decide.2 (by omega), show decide (-ay = 0) = decide (ay = 0) from decide_eq_decide.2 (by omega)]))
    · exact Lib.hid (cir _ _ _ _ _ _ _ _ _ _ _ rfl)
  · exact mirrors_bad k r ax ay m o px py vx vy key _ (Lib.hid body_awake) (Lib.hid (rck k r ax ay m o px py vx vy _ rfl)) (by rw [bne_iff_ne]; exact h) w
end Go.Proofs.Ytjbhgjaklmpkjaa
