/-
  Package body: the walk of the law BodyChecks.
-/
import Derived.Test.YtjbhgjaklmpkjaaBodyLaws
import Derived.Test.YtjbhgjaklmpkjaaBodyRef
namespace Go.Proofs.Ytjbhgjaklmpkjaa
open Go.RowKit Go.Lib

set_option maxRecDepth 100000 in
set_option maxHeartbeats 2000000 in
theorem checks_bad (k r ax ay m o px py vx vy pt n e : Int) (A : Hid BodyAwake) (Ck : Hid (Rck k r ax ay m o px py vx vy e)) (he : (e != 0) = true) (w : World) :
    Calls Try.prog 4 #[.agg #[.int .u32 k, .int .i32 r, .int .i32 ax, .int .i32 ay, .int .i32 m, .int .i32 o, .int .i32 px, .int .i32 py, .int .i32 vx, .int .i32 vy], .int .u8 pt, .int .i32 n] w fun e w' => e = .returned (.bool true) ∧ Grown w w' := by
  go_enter Try.func4, Try.ntmps4
  go_wp2_with (first
    | ((with_reducible refine (A.out _).mono ?_); rintro e w1 ⟨rfl, g1⟩
       (first | (replace gg := grown_trans gg g1) | (have b0 := kept_cell g1 (b := w.heap.size) (o := 0) (v := .int .u32 k) (by (repeat (first | rw [World.cell?_drew] | rw [World.cell?_alloc_past _ _ _ (by first | (simp; done) | (simp; omega))])); rw [World.cell?_alloc_at _ _ _ _ (by simp)]; rfl); have b1 := kept_cell g1 (b := w.heap.size) (o := 1) (v := .int .i32 r) (by (repeat (first | rw [World.cell?_drew] | rw [World.cell?_alloc_past _ _ _ (by first | (simp; done) | (simp; omega))])); rw [World.cell?_alloc_at _ _ _ _ (by simp)]; rfl); have b2 := kept_cell g1 (b := w.heap.size) (o := 2) (v := .int .i32 ax) (by (repeat (first | rw [World.cell?_drew] | rw [World.cell?_alloc_past _ _ _ (by first | (simp; done) | (simp; omega))])); rw [World.cell?_alloc_at _ _ _ _ (by simp)]; rfl); have b3 := kept_cell g1 (b := w.heap.size) (o := 3) (v := .int .i32 ay) (by (repeat (first | rw [World.cell?_drew] | rw [World.cell?_alloc_past _ _ _ (by first | (simp; done) | (simp; omega))])); rw [World.cell?_alloc_at _ _ _ _ (by simp)]; rfl); have b4 := kept_cell g1 (b := w.heap.size) (o := 4) (v := .int .i32 m) (by (repeat (first | rw [World.cell?_drew] | rw [World.cell?_alloc_past _ _ _ (by first | (simp; done) | (simp; omega))])); rw [World.cell?_alloc_at _ _ _ _ (by simp)]; rfl); have b5 := kept_cell g1 (b := w.heap.size) (o := 5) (v := .int .i32 o) (by (repeat (first | rw [World.cell?_drew] | rw [World.cell?_alloc_past _ _ _ (by first | (simp; done) | (simp; omega))])); rw [World.cell?_alloc_at _ _ _ _ (by simp)]; rfl); have b6 := kept_cell g1 (b := w.heap.size) (o := 6) (v := .int .i32 px) (by (repeat (first | rw [World.cell?_drew] | rw [World.cell?_alloc_past _ _ _ (by first | (simp; done) | (simp; omega))])); rw [World.cell?_alloc_at _ _ _ _ (by simp)]; rfl); have b7 := kept_cell g1 (b := w.heap.size) (o := 7) (v := .int .i32 py) (by (repeat (first | rw [World.cell?_drew] | rw [World.cell?_alloc_past _ _ _ (by first | (simp; done) | (simp; omega))])); rw [World.cell?_alloc_at _ _ _ _ (by simp)]; rfl); have b8 := kept_cell g1 (b := w.heap.size) (o := 8) (v := .int .i32 vx) (by (repeat (first | rw [World.cell?_drew] | rw [World.cell?_alloc_past _ _ _ (by first | (simp; done) | (simp; omega))])); rw [World.cell?_alloc_at _ _ _ _ (by simp)]; rfl); have b9 := kept_cell g1 (b := w.heap.size) (o := 9) (v := .int .i32 vy) (by (repeat (first | rw [World.cell?_drew] | rw [World.cell?_alloc_past _ _ _ (by first | (simp; done) | (simp; omega))])); rw [World.cell?_alloc_at _ _ _ _ (by simp)]; rfl); have gg := grown_trans ((Grown.refl _).alloc _ _) g1)))
    | ((with_reducible refine (Ck.out _).mono ?_); rintro e w2 ⟨rfl, g2⟩
       replace b0 := kept_cell g2 (b := w.heap.size) (o := 0) (v := .int .u32 k) b0
       replace b1 := kept_cell g2 (b := w.heap.size) (o := 1) (v := .int .i32 r) b1
       replace b2 := kept_cell g2 (b := w.heap.size) (o := 2) (v := .int .i32 ax) b2
       replace b3 := kept_cell g2 (b := w.heap.size) (o := 3) (v := .int .i32 ay) b3
       replace b4 := kept_cell g2 (b := w.heap.size) (o := 4) (v := .int .i32 m) b4
       replace b5 := kept_cell g2 (b := w.heap.size) (o := 5) (v := .int .i32 o) b5
       replace b6 := kept_cell g2 (b := w.heap.size) (o := 6) (v := .int .i32 px) b6
       replace b7 := kept_cell g2 (b := w.heap.size) (o := 7) (v := .int .i32 py) b7
       replace b8 := kept_cell g2 (b := w.heap.size) (o := 8) (v := .int .i32 vx) b8
       replace b9 := kept_cell g2 (b := w.heap.size) (o := 9) (v := .int .i32 vy) b9
       replace gg := grown_trans gg g2
       have zb_w2 : w.heap.size < w2.heap.size := World.block_lt_of_cell? _ _ b0))
  go_ret
  exact ⟨rfl, gg⟩

set_option maxRecDepth 100000 in
set_option maxHeartbeats 2000000 in
theorem checks0_lo (k r ax ay m o px py vx vy pt n k1 : Int) (A : Hid BodyAwake) (Ck : Hid (Rck k r ax ay m o px py vx vy 0)) (t1 : pt.tmod 9 = 0) (hk : IntKind.u32.wrap (k + 1) = k1) (_hn : n < 4096) (K1 : Hid (Chk k1 n ax ay m o px py vx vy 4)) (w : World) :
    Calls Try.prog 4 #[.agg #[.int .u32 k, .int .i32 r, .int .i32 ax, .int .i32 ay, .int .i32 m, .int .i32 o, .int .i32 px, .int .i32 py, .int .i32 vx, .int .i32 vy], .int .u8 pt, .int .i32 n] w fun e w' => e = .returned (.bool true) ∧ Grown w w' := by
  have t3 : IntKind.u8.wrap 0 = 0 := by decide
  go_enter Try.func4, Try.ntmps4
  go_wp2_with (first
    | ((with_reducible refine (A.out _).mono ?_); rintro e w1 ⟨rfl, g1⟩
       (first | (replace gg := grown_trans gg g1) | (have b0 := kept_cell g1 (b := w.heap.size) (o := 0) (v := .int .u32 k) (by (repeat (first | rw [World.cell?_drew] | rw [World.cell?_alloc_past _ _ _ (by first | (simp; done) | (simp; omega))])); rw [World.cell?_alloc_at _ _ _ _ (by simp)]; rfl); have b1 := kept_cell g1 (b := w.heap.size) (o := 1) (v := .int .i32 r) (by (repeat (first | rw [World.cell?_drew] | rw [World.cell?_alloc_past _ _ _ (by first | (simp; done) | (simp; omega))])); rw [World.cell?_alloc_at _ _ _ _ (by simp)]; rfl); have b2 := kept_cell g1 (b := w.heap.size) (o := 2) (v := .int .i32 ax) (by (repeat (first | rw [World.cell?_drew] | rw [World.cell?_alloc_past _ _ _ (by first | (simp; done) | (simp; omega))])); rw [World.cell?_alloc_at _ _ _ _ (by simp)]; rfl); have b3 := kept_cell g1 (b := w.heap.size) (o := 3) (v := .int .i32 ay) (by (repeat (first | rw [World.cell?_drew] | rw [World.cell?_alloc_past _ _ _ (by first | (simp; done) | (simp; omega))])); rw [World.cell?_alloc_at _ _ _ _ (by simp)]; rfl); have b4 := kept_cell g1 (b := w.heap.size) (o := 4) (v := .int .i32 m) (by (repeat (first | rw [World.cell?_drew] | rw [World.cell?_alloc_past _ _ _ (by first | (simp; done) | (simp; omega))])); rw [World.cell?_alloc_at _ _ _ _ (by simp)]; rfl); have b5 := kept_cell g1 (b := w.heap.size) (o := 5) (v := .int .i32 o) (by (repeat (first | rw [World.cell?_drew] | rw [World.cell?_alloc_past _ _ _ (by first | (simp; done) | (simp; omega))])); rw [World.cell?_alloc_at _ _ _ _ (by simp)]; rfl); have b6 := kept_cell g1 (b := w.heap.size) (o := 6) (v := .int .i32 px) (by (repeat (first | rw [World.cell?_drew] | rw [World.cell?_alloc_past _ _ _ (by first | (simp; done) | (simp; omega))])); rw [World.cell?_alloc_at _ _ _ _ (by simp)]; rfl); have b7 := kept_cell g1 (b := w.heap.size) (o := 7) (v := .int .i32 py) (by (repeat (first | rw [World.cell?_drew] | rw [World.cell?_alloc_past _ _ _ (by first | (simp; done) | (simp; omega))])); rw [World.cell?_alloc_at _ _ _ _ (by simp)]; rfl); have b8 := kept_cell g1 (b := w.heap.size) (o := 8) (v := .int .i32 vx) (by (repeat (first | rw [World.cell?_drew] | rw [World.cell?_alloc_past _ _ _ (by first | (simp; done) | (simp; omega))])); rw [World.cell?_alloc_at _ _ _ _ (by simp)]; rfl); have b9 := kept_cell g1 (b := w.heap.size) (o := 9) (v := .int .i32 vy) (by (repeat (first | rw [World.cell?_drew] | rw [World.cell?_alloc_past _ _ _ (by first | (simp; done) | (simp; omega))])); rw [World.cell?_alloc_at _ _ _ _ (by simp)]; rfl); have gg := grown_trans ((Grown.refl _).alloc _ _) g1)))
    | ((with_reducible refine (Ck.out _).mono ?_); rintro e w2 ⟨rfl, g2⟩
       replace b0 := kept_cell g2 (b := w.heap.size) (o := 0) (v := .int .u32 k) b0
       replace b1 := kept_cell g2 (b := w.heap.size) (o := 1) (v := .int .i32 r) b1
       replace b2 := kept_cell g2 (b := w.heap.size) (o := 2) (v := .int .i32 ax) b2
       replace b3 := kept_cell g2 (b := w.heap.size) (o := 3) (v := .int .i32 ay) b3
       replace b4 := kept_cell g2 (b := w.heap.size) (o := 4) (v := .int .i32 m) b4
       replace b5 := kept_cell g2 (b := w.heap.size) (o := 5) (v := .int .i32 o) b5
       replace b6 := kept_cell g2 (b := w.heap.size) (o := 6) (v := .int .i32 px) b6
       replace b7 := kept_cell g2 (b := w.heap.size) (o := 7) (v := .int .i32 py) b7
       replace b8 := kept_cell g2 (b := w.heap.size) (o := 8) (v := .int .i32 vx) b8
       replace b9 := kept_cell g2 (b := w.heap.size) (o := 9) (v := .int .i32 vy) b9
       replace gg := grown_trans gg g2
       have zb_w2 : w.heap.size < w2.heap.size := World.block_lt_of_cell? _ _ b0)
    | ((with_reducible refine (K1.out _).mono ?_); rintro e w3 ⟨rfl, g3⟩
       replace gg := grown_trans (gg.alloc _ _) g3))
  go_ret
  exact ⟨rfl, gg⟩

set_option maxRecDepth 100000 in
set_option maxHeartbeats 2000000 in
theorem checks0_hi (k r ax ay m o px py vx vy pt n k1 : Int) (A : Hid BodyAwake) (Ck : Hid (Rck k r ax ay m o px py vx vy 0)) (t1 : pt.tmod 9 = 0) (hk : IntKind.u32.wrap (k + 1) = k1) (_h0 : ¬ n < 4096) (_hn : 4194304 < n) (K1 : Hid (Chk k1 n ax ay m o px py vx vy 4)) (w : World) :
    Calls Try.prog 4 #[.agg #[.int .u32 k, .int .i32 r, .int .i32 ax, .int .i32 ay, .int .i32 m, .int .i32 o, .int .i32 px, .int .i32 py, .int .i32 vx, .int .i32 vy], .int .u8 pt, .int .i32 n] w fun e w' => e = .returned (.bool true) ∧ Grown w w' := by
  have t3 : IntKind.u8.wrap 0 = 0 := by decide
  go_enter Try.func4, Try.ntmps4
  go_wp2_with (first
    | ((with_reducible refine (A.out _).mono ?_); rintro e w1 ⟨rfl, g1⟩
       (first | (replace gg := grown_trans gg g1) | (have b0 := kept_cell g1 (b := w.heap.size) (o := 0) (v := .int .u32 k) (by (repeat (first | rw [World.cell?_drew] | rw [World.cell?_alloc_past _ _ _ (by first | (simp; done) | (simp; omega))])); rw [World.cell?_alloc_at _ _ _ _ (by simp)]; rfl); have b1 := kept_cell g1 (b := w.heap.size) (o := 1) (v := .int .i32 r) (by (repeat (first | rw [World.cell?_drew] | rw [World.cell?_alloc_past _ _ _ (by first | (simp; done) | (simp; omega))])); rw [World.cell?_alloc_at _ _ _ _ (by simp)]; rfl); have b2 := kept_cell g1 (b := w.heap.size) (o := 2) (v := .int .i32 ax) (by (repeat (first | rw [World.cell?_drew] | rw [World.cell?_alloc_past _ _ _ (by first | (simp; done) | (simp; omega))])); rw [World.cell?_alloc_at _ _ _ _ (by simp)]; rfl); have b3 := kept_cell g1 (b := w.heap.size) (o := 3) (v := .int .i32 ay) (by (repeat (first | rw [World.cell?_drew] | rw [World.cell?_alloc_past _ _ _ (by first | (simp; done) | (simp; omega))])); rw [World.cell?_alloc_at _ _ _ _ (by simp)]; rfl); have b4 := kept_cell g1 (b := w.heap.size) (o := 4) (v := .int .i32 m) (by (repeat (first | rw [World.cell?_drew] | rw [World.cell?_alloc_past _ _ _ (by first | (simp; done) | (simp; omega))])); rw [World.cell?_alloc_at _ _ _ _ (by simp)]; rfl); have b5 := kept_cell g1 (b := w.heap.size) (o := 5) (v := .int .i32 o) (by (repeat (first | rw [World.cell?_drew] | rw [World.cell?_alloc_past _ _ _ (by first | (simp; done) | (simp; omega))])); rw [World.cell?_alloc_at _ _ _ _ (by simp)]; rfl); have b6 := kept_cell g1 (b := w.heap.size) (o := 6) (v := .int .i32 px) (by (repeat (first | rw [World.cell?_drew] | rw [World.cell?_alloc_past _ _ _ (by first | (simp; done) | (simp; omega))])); rw [World.cell?_alloc_at _ _ _ _ (by simp)]; rfl); have b7 := kept_cell g1 (b := w.heap.size) (o := 7) (v := .int .i32 py) (by (repeat (first | rw [World.cell?_drew] | rw [World.cell?_alloc_past _ _ _ (by first | (simp; done) | (simp; omega))])); rw [World.cell?_alloc_at _ _ _ _ (by simp)]; rfl); have b8 := kept_cell g1 (b := w.heap.size) (o := 8) (v := .int .i32 vx) (by (repeat (first | rw [World.cell?_drew] | rw [World.cell?_alloc_past _ _ _ (by first | (simp; done) | (simp; omega))])); rw [World.cell?_alloc_at _ _ _ _ (by simp)]; rfl); have b9 := kept_cell g1 (b := w.heap.size) (o := 9) (v := .int .i32 vy) (by (repeat (first | rw [World.cell?_drew] | rw [World.cell?_alloc_past _ _ _ (by first | (simp; done) | (simp; omega))])); rw [World.cell?_alloc_at _ _ _ _ (by simp)]; rfl); have gg := grown_trans ((Grown.refl _).alloc _ _) g1)))
    | ((with_reducible refine (Ck.out _).mono ?_); rintro e w2 ⟨rfl, g2⟩
       replace b0 := kept_cell g2 (b := w.heap.size) (o := 0) (v := .int .u32 k) b0
       replace b1 := kept_cell g2 (b := w.heap.size) (o := 1) (v := .int .i32 r) b1
       replace b2 := kept_cell g2 (b := w.heap.size) (o := 2) (v := .int .i32 ax) b2
       replace b3 := kept_cell g2 (b := w.heap.size) (o := 3) (v := .int .i32 ay) b3
       replace b4 := kept_cell g2 (b := w.heap.size) (o := 4) (v := .int .i32 m) b4
       replace b5 := kept_cell g2 (b := w.heap.size) (o := 5) (v := .int .i32 o) b5
       replace b6 := kept_cell g2 (b := w.heap.size) (o := 6) (v := .int .i32 px) b6
       replace b7 := kept_cell g2 (b := w.heap.size) (o := 7) (v := .int .i32 py) b7
       replace b8 := kept_cell g2 (b := w.heap.size) (o := 8) (v := .int .i32 vx) b8
       replace b9 := kept_cell g2 (b := w.heap.size) (o := 9) (v := .int .i32 vy) b9
       replace gg := grown_trans gg g2
       have zb_w2 : w.heap.size < w2.heap.size := World.block_lt_of_cell? _ _ b0)
    | ((with_reducible refine (K1.out _).mono ?_); rintro e w3 ⟨rfl, g3⟩
       replace gg := grown_trans (gg.alloc _ _) g3))
  go_ret
  exact ⟨rfl, gg⟩

set_option maxRecDepth 100000 in
set_option maxHeartbeats 2000000 in
theorem checks0_ok (k r ax ay m o px py vx vy pt n k1 : Int) (A : Hid BodyAwake) (Ck : Hid (Rck k r ax ay m o px py vx vy 0)) (t1 : pt.tmod 9 = 0) (hk : IntKind.u32.wrap (k + 1) = k1) (_h0 : ¬ n < 4096) (_hn : ¬ 4194304 < n) (K1 : Hid (Chk k1 n ax ay m o px py vx vy 0)) (w : World) :
    Calls Try.prog 4 #[.agg #[.int .u32 k, .int .i32 r, .int .i32 ax, .int .i32 ay, .int .i32 m, .int .i32 o, .int .i32 px, .int .i32 py, .int .i32 vx, .int .i32 vy], .int .u8 pt, .int .i32 n] w fun e w' => e = .returned (.bool true) ∧ Grown w w' := by
  have t3 : IntKind.u8.wrap 0 = 0 := by decide
  go_enter Try.func4, Try.ntmps4
  go_wp2_with (first
    | ((with_reducible refine (A.out _).mono ?_); rintro e w1 ⟨rfl, g1⟩
       (first | (replace gg := grown_trans gg g1) | (have b0 := kept_cell g1 (b := w.heap.size) (o := 0) (v := .int .u32 k) (by (repeat (first | rw [World.cell?_drew] | rw [World.cell?_alloc_past _ _ _ (by first | (simp; done) | (simp; omega))])); rw [World.cell?_alloc_at _ _ _ _ (by simp)]; rfl); have b1 := kept_cell g1 (b := w.heap.size) (o := 1) (v := .int .i32 r) (by (repeat (first | rw [World.cell?_drew] | rw [World.cell?_alloc_past _ _ _ (by first | (simp; done) | (simp; omega))])); rw [World.cell?_alloc_at _ _ _ _ (by simp)]; rfl); have b2 := kept_cell g1 (b := w.heap.size) (o := 2) (v := .int .i32 ax) (by (repeat (first | rw [World.cell?_drew] | rw [World.cell?_alloc_past _ _ _ (by first | (simp; done) | (simp; omega))])); rw [World.cell?_alloc_at _ _ _ _ (by simp)]; rfl); have b3 := kept_cell g1 (b := w.heap.size) (o := 3) (v := .int .i32 ay) (by (repeat (first | rw [World.cell?_drew] | rw [World.cell?_alloc_past _ _ _ (by first | (simp; done) | (simp; omega))])); rw [World.cell?_alloc_at _ _ _ _ (by simp)]; rfl); have b4 := kept_cell g1 (b := w.heap.size) (o := 4) (v := .int .i32 m) (by (repeat (first | rw [World.cell?_drew] | rw [World.cell?_alloc_past _ _ _ (by first | (simp; done) | (simp; omega))])); rw [World.cell?_alloc_at _ _ _ _ (by simp)]; rfl); have b5 := kept_cell g1 (b := w.heap.size) (o := 5) (v := .int .i32 o) (by (repeat (first | rw [World.cell?_drew] | rw [World.cell?_alloc_past _ _ _ (by first | (simp; done) | (simp; omega))])); rw [World.cell?_alloc_at _ _ _ _ (by simp)]; rfl); have b6 := kept_cell g1 (b := w.heap.size) (o := 6) (v := .int .i32 px) (by (repeat (first | rw [World.cell?_drew] | rw [World.cell?_alloc_past _ _ _ (by first | (simp; done) | (simp; omega))])); rw [World.cell?_alloc_at _ _ _ _ (by simp)]; rfl); have b7 := kept_cell g1 (b := w.heap.size) (o := 7) (v := .int .i32 py) (by (repeat (first | rw [World.cell?_drew] | rw [World.cell?_alloc_past _ _ _ (by first | (simp; done) | (simp; omega))])); rw [World.cell?_alloc_at _ _ _ _ (by simp)]; rfl); have b8 := kept_cell g1 (b := w.heap.size) (o := 8) (v := .int .i32 vx) (by (repeat (first | rw [World.cell?_drew] | rw [World.cell?_alloc_past _ _ _ (by first | (simp; done) | (simp; omega))])); rw [World.cell?_alloc_at _ _ _ _ (by simp)]; rfl); have b9 := kept_cell g1 (b := w.heap.size) (o := 9) (v := .int .i32 vy) (by (repeat (first | rw [World.cell?_drew] | rw [World.cell?_alloc_past _ _ _ (by first | (simp; done) | (simp; omega))])); rw [World.cell?_alloc_at _ _ _ _ (by simp)]; rfl); have gg := grown_trans ((Grown.refl _).alloc _ _) g1)))
    | ((with_reducible refine (Ck.out _).mono ?_); rintro e w2 ⟨rfl, g2⟩
       replace b0 := kept_cell g2 (b := w.heap.size) (o := 0) (v := .int .u32 k) b0
       replace b1 := kept_cell g2 (b := w.heap.size) (o := 1) (v := .int .i32 r) b1
       replace b2 := kept_cell g2 (b := w.heap.size) (o := 2) (v := .int .i32 ax) b2
       replace b3 := kept_cell g2 (b := w.heap.size) (o := 3) (v := .int .i32 ay) b3
       replace b4 := kept_cell g2 (b := w.heap.size) (o := 4) (v := .int .i32 m) b4
       replace b5 := kept_cell g2 (b := w.heap.size) (o := 5) (v := .int .i32 o) b5
       replace b6 := kept_cell g2 (b := w.heap.size) (o := 6) (v := .int .i32 px) b6
       replace b7 := kept_cell g2 (b := w.heap.size) (o := 7) (v := .int .i32 py) b7
       replace b8 := kept_cell g2 (b := w.heap.size) (o := 8) (v := .int .i32 vx) b8
       replace b9 := kept_cell g2 (b := w.heap.size) (o := 9) (v := .int .i32 vy) b9
       replace gg := grown_trans gg g2
       have zb_w2 : w.heap.size < w2.heap.size := World.block_lt_of_cell? _ _ b0)
    | ((with_reducible refine (K1.out _).mono ?_); rintro e w3 ⟨rfl, g3⟩
       replace gg := grown_trans (gg.alloc _ _) g3))
  go_ret
  exact ⟨rfl, gg⟩

set_option maxRecDepth 100000 in
set_option maxHeartbeats 2000000 in
theorem checks1_no (k r ax ay m o px py vx vy pt n k1 : Int) (A : Hid BodyAwake) (Ck : Hid (Rck k r ax ay m o px py vx vy 0)) (t1 : pt.tmod 9 = 1) (hk : IntKind.u32.wrap (k + 1) = k1) (J : Hid (RIn n 4194304 false)) (K1 : Hid (Chk k1 r n ay m o px py vx vy 5)) (w : World) :
    Calls Try.prog 4 #[.agg #[.int .u32 k, .int .i32 r, .int .i32 ax, .int .i32 ay, .int .i32 m, .int .i32 o, .int .i32 px, .int .i32 py, .int .i32 vx, .int .i32 vy], .int .u8 pt, .int .i32 n] w fun e w' => e = .returned (.bool true) ∧ Grown w w' := by
  have t3 : IntKind.u8.wrap 1 = 1 := by decide
  go_enter Try.func4, Try.ntmps4
  go_wp2_with (first
    | ((with_reducible refine (A.out _).mono ?_); rintro e w1 ⟨rfl, g1⟩
       (first | (replace gg := grown_trans gg g1) | (have b0 := kept_cell g1 (b := w.heap.size) (o := 0) (v := .int .u32 k) (by (repeat (first | rw [World.cell?_drew] | rw [World.cell?_alloc_past _ _ _ (by first | (simp; done) | (simp; omega))])); rw [World.cell?_alloc_at _ _ _ _ (by simp)]; rfl); have b1 := kept_cell g1 (b := w.heap.size) (o := 1) (v := .int .i32 r) (by (repeat (first | rw [World.cell?_drew] | rw [World.cell?_alloc_past _ _ _ (by first | (simp; done) | (simp; omega))])); rw [World.cell?_alloc_at _ _ _ _ (by simp)]; rfl); have b2 := kept_cell g1 (b := w.heap.size) (o := 2) (v := .int .i32 ax) (by (repeat (first | rw [World.cell?_drew] | rw [World.cell?_alloc_past _ _ _ (by first | (simp; done) | (simp; omega))])); rw [World.cell?_alloc_at _ _ _ _ (by simp)]; rfl); have b3 := kept_cell g1 (b := w.heap.size) (o := 3) (v := .int .i32 ay) (by (repeat (first | rw [World.cell?_drew] | rw [World.cell?_alloc_past _ _ _ (by first | (simp; done) | (simp; omega))])); rw [World.cell?_alloc_at _ _ _ _ (by simp)]; rfl); have b4 := kept_cell g1 (b := w.heap.size) (o := 4) (v := .int .i32 m) (by (repeat (first | rw [World.cell?_drew] | rw [World.cell?_alloc_past _ _ _ (by first | (simp; done) | (simp; omega))])); rw [World.cell?_alloc_at _ _ _ _ (by simp)]; rfl); have b5 := kept_cell g1 (b := w.heap.size) (o := 5) (v := .int .i32 o) (by (repeat (first | rw [World.cell?_drew] | rw [World.cell?_alloc_past _ _ _ (by first | (simp; done) | (simp; omega))])); rw [World.cell?_alloc_at _ _ _ _ (by simp)]; rfl); have b6 := kept_cell g1 (b := w.heap.size) (o := 6) (v := .int .i32 px) (by (repeat (first | rw [World.cell?_drew] | rw [World.cell?_alloc_past _ _ _ (by first | (simp; done) | (simp; omega))])); rw [World.cell?_alloc_at _ _ _ _ (by simp)]; rfl); have b7 := kept_cell g1 (b := w.heap.size) (o := 7) (v := .int .i32 py) (by (repeat (first | rw [World.cell?_drew] | rw [World.cell?_alloc_past _ _ _ (by first | (simp; done) | (simp; omega))])); rw [World.cell?_alloc_at _ _ _ _ (by simp)]; rfl); have b8 := kept_cell g1 (b := w.heap.size) (o := 8) (v := .int .i32 vx) (by (repeat (first | rw [World.cell?_drew] | rw [World.cell?_alloc_past _ _ _ (by first | (simp; done) | (simp; omega))])); rw [World.cell?_alloc_at _ _ _ _ (by simp)]; rfl); have b9 := kept_cell g1 (b := w.heap.size) (o := 9) (v := .int .i32 vy) (by (repeat (first | rw [World.cell?_drew] | rw [World.cell?_alloc_past _ _ _ (by first | (simp; done) | (simp; omega))])); rw [World.cell?_alloc_at _ _ _ _ (by simp)]; rfl); have gg := grown_trans ((Grown.refl _).alloc _ _) g1)))
    | ((with_reducible refine (Ck.out _).mono ?_); rintro e w2 ⟨rfl, g2⟩
       replace b0 := kept_cell g2 (b := w.heap.size) (o := 0) (v := .int .u32 k) b0
       replace b1 := kept_cell g2 (b := w.heap.size) (o := 1) (v := .int .i32 r) b1
       replace b2 := kept_cell g2 (b := w.heap.size) (o := 2) (v := .int .i32 ax) b2
       replace b3 := kept_cell g2 (b := w.heap.size) (o := 3) (v := .int .i32 ay) b3
       replace b4 := kept_cell g2 (b := w.heap.size) (o := 4) (v := .int .i32 m) b4
       replace b5 := kept_cell g2 (b := w.heap.size) (o := 5) (v := .int .i32 o) b5
       replace b6 := kept_cell g2 (b := w.heap.size) (o := 6) (v := .int .i32 px) b6
       replace b7 := kept_cell g2 (b := w.heap.size) (o := 7) (v := .int .i32 py) b7
       replace b8 := kept_cell g2 (b := w.heap.size) (o := 8) (v := .int .i32 vx) b8
       replace b9 := kept_cell g2 (b := w.heap.size) (o := 9) (v := .int .i32 vy) b9
       replace gg := grown_trans gg g2
       have zb_w2 : w.heap.size < w2.heap.size := World.block_lt_of_cell? _ _ b0)
    | ((with_reducible refine (J.out _).mono ?_); rintro e w' ⟨rfl, rfl⟩)
    | ((with_reducible refine (K1.out _).mono ?_); rintro e w3 ⟨rfl, g3⟩
       replace gg := grown_trans (gg.alloc _ _) g3))
  go_ret
  exact ⟨rfl, gg⟩

set_option maxRecDepth 100000 in
set_option maxHeartbeats 2000000 in
theorem checks1_ok (k r ax ay m o px py vx vy pt n k1 : Int) (A : Hid BodyAwake) (Ck : Hid (Rck k r ax ay m o px py vx vy 0)) (t1 : pt.tmod 9 = 1) (hk : IntKind.u32.wrap (k + 1) = k1) (J : Hid (RIn n 4194304 true)) (K1 : Hid (Chk k1 r n ay m o px py vx vy 0)) (w : World) :
    Calls Try.prog 4 #[.agg #[.int .u32 k, .int .i32 r, .int .i32 ax, .int .i32 ay, .int .i32 m, .int .i32 o, .int .i32 px, .int .i32 py, .int .i32 vx, .int .i32 vy], .int .u8 pt, .int .i32 n] w fun e w' => e = .returned (.bool true) ∧ Grown w w' := by
  have t3 : IntKind.u8.wrap 1 = 1 := by decide
  go_enter Try.func4, Try.ntmps4
  go_wp2_with (first
    | ((with_reducible refine (A.out _).mono ?_); rintro e w1 ⟨rfl, g1⟩
       (first | (replace gg := grown_trans gg g1) | (have b0 := kept_cell g1 (b := w.heap.size) (o := 0) (v := .int .u32 k) (by (repeat (first | rw [World.cell?_drew] | rw [World.cell?_alloc_past _ _ _ (by first | (simp; done) | (simp; omega))])); rw [World.cell?_alloc_at _ _ _ _ (by simp)]; rfl); have b1 := kept_cell g1 (b := w.heap.size) (o := 1) (v := .int .i32 r) (by (repeat (first | rw [World.cell?_drew] | rw [World.cell?_alloc_past _ _ _ (by first | (simp; done) | (simp; omega))])); rw [World.cell?_alloc_at _ _ _ _ (by simp)]; rfl); have b2 := kept_cell g1 (b := w.heap.size) (o := 2) (v := .int .i32 ax) (by (repeat (first | rw [World.cell?_drew] | rw [World.cell?_alloc_past _ _ _ (by first | (simp; done) | (simp; omega))])); rw [World.cell?_alloc_at _ _ _ _ (by simp)]; rfl); have b3 := kept_cell g1 (b := w.heap.size) (o := 3) (v := .int .i32 ay) (by (repeat (first | rw [World.cell?_drew] | rw [World.cell?_alloc_past _ _ _ (by first | (simp; done) | (simp; omega))])); rw [World.cell?_alloc_at _ _ _ _ (by simp)]; rfl); have b4 := kept_cell g1 (b := w.heap.size) (o := 4) (v := .int .i32 m) (by (repeat (first | rw [World.cell?_drew] | rw [World.cell?_alloc_past _ _ _ (by first | (simp; done) | (simp; omega))])); rw [World.cell?_alloc_at _ _ _ _ (by simp)]; rfl); have b5 := kept_cell g1 (b := w.heap.size) (o := 5) (v := .int .i32 o) (by (repeat (first | rw [World.cell?_drew] | rw [World.cell?_alloc_past _ _ _ (by first | (simp; done) | (simp; omega))])); rw [World.cell?_alloc_at _ _ _ _ (by simp)]; rfl); have b6 := kept_cell g1 (b := w.heap.size) (o := 6) (v := .int .i32 px) (by (repeat (first | rw [World.cell?_drew] | rw [World.cell?_alloc_past _ _ _ (by first | (simp; done) | (simp; omega))])); rw [World.cell?_alloc_at _ _ _ _ (by simp)]; rfl); have b7 := kept_cell g1 (b := w.heap.size) (o := 7) (v := .int .i32 py) (by (repeat (first | rw [World.cell?_drew] | rw [World.cell?_alloc_past _ _ _ (by first | (simp; done) | (simp; omega))])); rw [World.cell?_alloc_at _ _ _ _ (by simp)]; rfl); have b8 := kept_cell g1 (b := w.heap.size) (o := 8) (v := .int .i32 vx) (by (repeat (first | rw [World.cell?_drew] | rw [World.cell?_alloc_past _ _ _ (by first | (simp; done) | (simp; omega))])); rw [World.cell?_alloc_at _ _ _ _ (by simp)]; rfl); have b9 := kept_cell g1 (b := w.heap.size) (o := 9) (v := .int .i32 vy) (by (repeat (first | rw [World.cell?_drew] | rw [World.cell?_alloc_past _ _ _ (by first | (simp; done) | (simp; omega))])); rw [World.cell?_alloc_at _ _ _ _ (by simp)]; rfl); have gg := grown_trans ((Grown.refl _).alloc _ _) g1)))
    | ((with_reducible refine (Ck.out _).mono ?_); rintro e w2 ⟨rfl, g2⟩
       replace b0 := kept_cell g2 (b := w.heap.size) (o := 0) (v := .int .u32 k) b0
       replace b1 := kept_cell g2 (b := w.heap.size) (o := 1) (v := .int .i32 r) b1
       replace b2 := kept_cell g2 (b := w.heap.size) (o := 2) (v := .int .i32 ax) b2
       replace b3 := kept_cell g2 (b := w.heap.size) (o := 3) (v := .int .i32 ay) b3
       replace b4 := kept_cell g2 (b := w.heap.size) (o := 4) (v := .int .i32 m) b4
       replace b5 := kept_cell g2 (b := w.heap.size) (o := 5) (v := .int .i32 o) b5
       replace b6 := kept_cell g2 (b := w.heap.size) (o := 6) (v := .int .i32 px) b6
       replace b7 := kept_cell g2 (b := w.heap.size) (o := 7) (v := .int .i32 py) b7
       replace b8 := kept_cell g2 (b := w.heap.size) (o := 8) (v := .int .i32 vx) b8
       replace b9 := kept_cell g2 (b := w.heap.size) (o := 9) (v := .int .i32 vy) b9
       replace gg := grown_trans gg g2
       have zb_w2 : w.heap.size < w2.heap.size := World.block_lt_of_cell? _ _ b0)
    | ((with_reducible refine (J.out _).mono ?_); rintro e w' ⟨rfl, rfl⟩)
    | ((with_reducible refine (K1.out _).mono ?_); rintro e w3 ⟨rfl, g3⟩
       replace gg := grown_trans (gg.alloc _ _) g3))
  go_ret
  exact ⟨rfl, gg⟩

set_option maxRecDepth 100000 in
set_option maxHeartbeats 2000000 in
theorem checks2_no (k r ax ay m o px py vx vy pt n k1 : Int) (A : Hid BodyAwake) (Ck : Hid (Rck k r ax ay m o px py vx vy 0)) (t1 : pt.tmod 9 = 2) (hk : IntKind.u32.wrap (k + 1) = k1) (J : Hid (RIn n 4194304 false)) (K1 : Hid (Chk k1 r ax n m o px py vx vy 5)) (w : World) :
    Calls Try.prog 4 #[.agg #[.int .u32 k, .int .i32 r, .int .i32 ax, .int .i32 ay, .int .i32 m, .int .i32 o, .int .i32 px, .int .i32 py, .int .i32 vx, .int .i32 vy], .int .u8 pt, .int .i32 n] w fun e w' => e = .returned (.bool true) ∧ Grown w w' := by
  have t3 : IntKind.u8.wrap 2 = 2 := by decide
  go_enter Try.func4, Try.ntmps4
  go_wp2_with (first
    | ((with_reducible refine (A.out _).mono ?_); rintro e w1 ⟨rfl, g1⟩
       (first | (replace gg := grown_trans gg g1) | (have b0 := kept_cell g1 (b := w.heap.size) (o := 0) (v := .int .u32 k) (by (repeat (first | rw [World.cell?_drew] | rw [World.cell?_alloc_past _ _ _ (by first | (simp; done) | (simp; omega))])); rw [World.cell?_alloc_at _ _ _ _ (by simp)]; rfl); have b1 := kept_cell g1 (b := w.heap.size) (o := 1) (v := .int .i32 r) (by (repeat (first | rw [World.cell?_drew] | rw [World.cell?_alloc_past _ _ _ (by first | (simp; done) | (simp; omega))])); rw [World.cell?_alloc_at _ _ _ _ (by simp)]; rfl); have b2 := kept_cell g1 (b := w.heap.size) (o := 2) (v := .int .i32 ax) (by (repeat (first | rw [World.cell?_drew] | rw [World.cell?_alloc_past _ _ _ (by first | (simp; done) | (simp; omega))])); rw [World.cell?_alloc_at _ _ _ _ (by simp)]; rfl); have b3 := kept_cell g1 (b := w.heap.size) (o := 3) (v := .int .i32 ay) (by (repeat (first | rw [World.cell?_drew] | rw [World.cell?_alloc_past _ _ _ (by first | (simp; done) | (simp; omega))])); rw [World.cell?_alloc_at _ _ _ _ (by simp)]; rfl); have b4 := kept_cell g1 (b := w.heap.size) (o := 4) (v := .int .i32 m) (by (repeat (first | rw [World.cell?_drew] | rw [World.cell?_alloc_past _ _ _ (by first | (simp; done) | (simp; omega))])); rw [World.cell?_alloc_at _ _ _ _ (by simp)]; rfl); have b5 := kept_cell g1 (b := w.heap.size) (o := 5) (v := .int .i32 o) (by (repeat (first | rw [World.cell?_drew] | rw [World.cell?_alloc_past _ _ _ (by first | (simp; done) | (simp; omega))])); rw [World.cell?_alloc_at _ _ _ _ (by simp)]; rfl); have b6 := kept_cell g1 (b := w.heap.size) (o := 6) (v := .int .i32 px) (by (repeat (first | rw [World.cell?_drew] | rw [World.cell?_alloc_past _ _ _ (by first | (simp; done) | (simp; omega))])); rw [World.cell?_alloc_at _ _ _ _ (by simp)]; rfl); have b7 := kept_cell g1 (b := w.heap.size) (o := 7) (v := .int .i32 py) (by (repeat (first | rw [World.cell?_drew] | rw [World.cell?_alloc_past _ _ _ (by first | (simp; done) | (simp; omega))])); rw [World.cell?_alloc_at _ _ _ _ (by simp)]; rfl); have b8 := kept_cell g1 (b := w.heap.size) (o := 8) (v := .int .i32 vx) (by (repeat (first | rw [World.cell?_drew] | rw [World.cell?_alloc_past _ _ _ (by first | (simp; done) | (simp; omega))])); rw [World.cell?_alloc_at _ _ _ _ (by simp)]; rfl); have b9 := kept_cell g1 (b := w.heap.size) (o := 9) (v := .int .i32 vy) (by (repeat (first | rw [World.cell?_drew] | rw [World.cell?_alloc_past _ _ _ (by first | (simp; done) | (simp; omega))])); rw [World.cell?_alloc_at _ _ _ _ (by simp)]; rfl); have gg := grown_trans ((Grown.refl _).alloc _ _) g1)))
    | ((with_reducible refine (Ck.out _).mono ?_); rintro e w2 ⟨rfl, g2⟩
       replace b0 := kept_cell g2 (b := w.heap.size) (o := 0) (v := .int .u32 k) b0
       replace b1 := kept_cell g2 (b := w.heap.size) (o := 1) (v := .int .i32 r) b1
       replace b2 := kept_cell g2 (b := w.heap.size) (o := 2) (v := .int .i32 ax) b2
       replace b3 := kept_cell g2 (b := w.heap.size) (o := 3) (v := .int .i32 ay) b3
       replace b4 := kept_cell g2 (b := w.heap.size) (o := 4) (v := .int .i32 m) b4
       replace b5 := kept_cell g2 (b := w.heap.size) (o := 5) (v := .int .i32 o) b5
       replace b6 := kept_cell g2 (b := w.heap.size) (o := 6) (v := .int .i32 px) b6
       replace b7 := kept_cell g2 (b := w.heap.size) (o := 7) (v := .int .i32 py) b7
       replace b8 := kept_cell g2 (b := w.heap.size) (o := 8) (v := .int .i32 vx) b8
       replace b9 := kept_cell g2 (b := w.heap.size) (o := 9) (v := .int .i32 vy) b9
       replace gg := grown_trans gg g2
       have zb_w2 : w.heap.size < w2.heap.size := World.block_lt_of_cell? _ _ b0)
    | ((with_reducible refine (J.out _).mono ?_); rintro e w' ⟨rfl, rfl⟩)
    | ((with_reducible refine (K1.out _).mono ?_); rintro e w3 ⟨rfl, g3⟩
       replace gg := grown_trans (gg.alloc _ _) g3))
  go_ret
  exact ⟨rfl, gg⟩

set_option maxRecDepth 100000 in
set_option maxHeartbeats 2000000 in
theorem checks2_ok (k r ax ay m o px py vx vy pt n k1 : Int) (A : Hid BodyAwake) (Ck : Hid (Rck k r ax ay m o px py vx vy 0)) (t1 : pt.tmod 9 = 2) (hk : IntKind.u32.wrap (k + 1) = k1) (J : Hid (RIn n 4194304 true)) (K1 : Hid (Chk k1 r ax n m o px py vx vy 0)) (w : World) :
    Calls Try.prog 4 #[.agg #[.int .u32 k, .int .i32 r, .int .i32 ax, .int .i32 ay, .int .i32 m, .int .i32 o, .int .i32 px, .int .i32 py, .int .i32 vx, .int .i32 vy], .int .u8 pt, .int .i32 n] w fun e w' => e = .returned (.bool true) ∧ Grown w w' := by
  have t3 : IntKind.u8.wrap 2 = 2 := by decide
  go_enter Try.func4, Try.ntmps4
  go_wp2_with (first
    | ((with_reducible refine (A.out _).mono ?_); rintro e w1 ⟨rfl, g1⟩
       (first | (replace gg := grown_trans gg g1) | (have b0 := kept_cell g1 (b := w.heap.size) (o := 0) (v := .int .u32 k) (by (repeat (first | rw [World.cell?_drew] | rw [World.cell?_alloc_past _ _ _ (by first | (simp; done) | (simp; omega))])); rw [World.cell?_alloc_at _ _ _ _ (by simp)]; rfl); have b1 := kept_cell g1 (b := w.heap.size) (o := 1) (v := .int .i32 r) (by (repeat (first | rw [World.cell?_drew] | rw [World.cell?_alloc_past _ _ _ (by first | (simp; done) | (simp; omega))])); rw [World.cell?_alloc_at _ _ _ _ (by simp)]; rfl); have b2 := kept_cell g1 (b := w.heap.size) (o := 2) (v := .int .i32 ax) (by (repeat (first | rw [World.cell?_drew] | rw [World.cell?_alloc_past _ _ _ (by first | (simp; done) | (simp; omega))])); rw [World.cell?_alloc_at _ _ _ _ (by simp)]; rfl); have b3 := kept_cell g1 (b := w.heap.size) (o := 3) (v := .int .i32 ay) (by (repeat (first | rw [World.cell?_drew] | rw [World.cell?_alloc_past _ _ _ (by first | (simp; done) | (simp; omega))])); rw [World.cell?_alloc_at _ _ _ _ (by simp)]; rfl); have b4 := kept_cell g1 (b := w.heap.size) (o := 4) (v := .int .i32 m) (by (repeat (first | rw [World.cell?_drew] | rw [World.cell?_alloc_past _ _ _ (by first | (simp; done) | (simp; omega))])); rw [World.cell?_alloc_at _ _ _ _ (by simp)]; rfl); have b5 := kept_cell g1 (b := w.heap.size) (o := 5) (v := .int .i32 o) (by (repeat (first | rw [World.cell?_drew] | rw [World.cell?_alloc_past _ _ _ (by first | (simp; done) | (simp; omega))])); rw [World.cell?_alloc_at _ _ _ _ (by simp)]; rfl); have b6 := kept_cell g1 (b := w.heap.size) (o := 6) (v := .int .i32 px) (by (repeat (first | rw [World.cell?_drew] | rw [World.cell?_alloc_past _ _ _ (by first | (simp; done) | (simp; omega))])); rw [World.cell?_alloc_at _ _ _ _ (by simp)]; rfl); have b7 := kept_cell g1 (b := w.heap.size) (o := 7) (v := .int .i32 py) (by (repeat (first | rw [World.cell?_drew] | rw [World.cell?_alloc_past _ _ _ (by first | (simp; done) | (simp; omega))])); rw [World.cell?_alloc_at _ _ _ _ (by simp)]; rfl); have b8 := kept_cell g1 (b := w.heap.size) (o := 8) (v := .int .i32 vx) (by (repeat (first | rw [World.cell?_drew] | rw [World.cell?_alloc_past _ _ _ (by first | (simp; done) | (simp; omega))])); rw [World.cell?_alloc_at _ _ _ _ (by simp)]; rfl); have b9 := kept_cell g1 (b := w.heap.size) (o := 9) (v := .int .i32 vy) (by (repeat (first | rw [World.cell?_drew] | rw [World.cell?_alloc_past _ _ _ (by first | (simp; done) | (simp; omega))])); rw [World.cell?_alloc_at _ _ _ _ (by simp)]; rfl); have gg := grown_trans ((Grown.refl _).alloc _ _) g1)))
    | ((with_reducible refine (Ck.out _).mono ?_); rintro e w2 ⟨rfl, g2⟩
       replace b0 := kept_cell g2 (b := w.heap.size) (o := 0) (v := .int .u32 k) b0
       replace b1 := kept_cell g2 (b := w.heap.size) (o := 1) (v := .int .i32 r) b1
       replace b2 := kept_cell g2 (b := w.heap.size) (o := 2) (v := .int .i32 ax) b2
       replace b3 := kept_cell g2 (b := w.heap.size) (o := 3) (v := .int .i32 ay) b3
       replace b4 := kept_cell g2 (b := w.heap.size) (o := 4) (v := .int .i32 m) b4
       replace b5 := kept_cell g2 (b := w.heap.size) (o := 5) (v := .int .i32 o) b5
       replace b6 := kept_cell g2 (b := w.heap.size) (o := 6) (v := .int .i32 px) b6
       replace b7 := kept_cell g2 (b := w.heap.size) (o := 7) (v := .int .i32 py) b7
       replace b8 := kept_cell g2 (b := w.heap.size) (o := 8) (v := .int .i32 vx) b8
       replace b9 := kept_cell g2 (b := w.heap.size) (o := 9) (v := .int .i32 vy) b9
       replace gg := grown_trans gg g2
       have zb_w2 : w.heap.size < w2.heap.size := World.block_lt_of_cell? _ _ b0)
    | ((with_reducible refine (J.out _).mono ?_); rintro e w' ⟨rfl, rfl⟩)
    | ((with_reducible refine (K1.out _).mono ?_); rintro e w3 ⟨rfl, g3⟩
       replace gg := grown_trans (gg.alloc _ _) g3))
  go_ret
  exact ⟨rfl, gg⟩

set_option maxRecDepth 100000 in
set_option maxHeartbeats 2000000 in
theorem checks3_lo (k r ax ay m o px py vx vy pt n k1 : Int) (A : Hid BodyAwake) (Ck : Hid (Rck k r ax ay m o px py vx vy 0)) (t1 : pt.tmod 9 = 3) (hk : IntKind.u32.wrap (k + 1) = k1) (_hn : n < 0) (K1 : Hid (Chk k1 r ax ay n o px py vx vy 6)) (w : World) :
    Calls Try.prog 4 #[.agg #[.int .u32 k, .int .i32 r, .int .i32 ax, .int .i32 ay, .int .i32 m, .int .i32 o, .int .i32 px, .int .i32 py, .int .i32 vx, .int .i32 vy], .int .u8 pt, .int .i32 n] w fun e w' => e = .returned (.bool true) ∧ Grown w w' := by
  have t3 : IntKind.u8.wrap 3 = 3 := by decide
  go_enter Try.func4, Try.ntmps4
  go_wp2_with (first
    | ((with_reducible refine (A.out _).mono ?_); rintro e w1 ⟨rfl, g1⟩
       (first | (replace gg := grown_trans gg g1) | (have b0 := kept_cell g1 (b := w.heap.size) (o := 0) (v := .int .u32 k) (by (repeat (first | rw [World.cell?_drew] | rw [World.cell?_alloc_past _ _ _ (by first | (simp; done) | (simp; omega))])); rw [World.cell?_alloc_at _ _ _ _ (by simp)]; rfl); have b1 := kept_cell g1 (b := w.heap.size) (o := 1) (v := .int .i32 r) (by (repeat (first | rw [World.cell?_drew] | rw [World.cell?_alloc_past _ _ _ (by first | (simp; done) | (simp; omega))])); rw [World.cell?_alloc_at _ _ _ _ (by simp)]; rfl); have b2 := kept_cell g1 (b := w.heap.size) (o := 2) (v := .int .i32 ax) (by (repeat (first | rw [World.cell?_drew] | rw [World.cell?_alloc_past _ _ _ (by first | (simp; done) | (simp; omega))])); rw [World.cell?_alloc_at _ _ _ _ (by simp)]; rfl); have b3 := kept_cell g1 (b := w.heap.size) (o := 3) (v := .int .i32 ay) (by (repeat (first | rw [World.cell?_drew] | rw [World.cell?_alloc_past _ _ _ (by first | (simp; done) | (simp; omega))])); rw [World.cell?_alloc_at _ _ _ _ (by simp)]; rfl); have b4 := kept_cell g1 (b := w.heap.size) (o := 4) (v := .int .i32 m) (by (repeat (first | rw [World.cell?_drew] | rw [World.cell?_alloc_past _ _ _ (by first | (simp; done) | (simp; omega))])); rw [World.cell?_alloc_at _ _ _ _ (by simp)]; rfl); have b5 := kept_cell g1 (b := w.heap.size) (o := 5) (v := .int .i32 o) (by (repeat (first | rw [World.cell?_drew] | rw [World.cell?_alloc_past _ _ _ (by first | (simp; done) | (simp; omega))])); rw [World.cell?_alloc_at _ _ _ _ (by simp)]; rfl); have b6 := kept_cell g1 (b := w.heap.size) (o := 6) (v := .int .i32 px) (by (repeat (first | rw [World.cell?_drew] | rw [World.cell?_alloc_past _ _ _ (by first | (simp; done) | (simp; omega))])); rw [World.cell?_alloc_at _ _ _ _ (by simp)]; rfl); have b7 := kept_cell g1 (b := w.heap.size) (o := 7) (v := .int .i32 py) (by (repeat (first | rw [World.cell?_drew] | rw [World.cell?_alloc_past _ _ _ (by first | (simp; done) | (simp; omega))])); rw [World.cell?_alloc_at _ _ _ _ (by simp)]; rfl); have b8 := kept_cell g1 (b := w.heap.size) (o := 8) (v := .int .i32 vx) (by (repeat (first | rw [World.cell?_drew] | rw [World.cell?_alloc_past _ _ _ (by first | (simp; done) | (simp; omega))])); rw [World.cell?_alloc_at _ _ _ _ (by simp)]; rfl); have b9 := kept_cell g1 (b := w.heap.size) (o := 9) (v := .int .i32 vy) (by (repeat (first | rw [World.cell?_drew] | rw [World.cell?_alloc_past _ _ _ (by first | (simp; done) | (simp; omega))])); rw [World.cell?_alloc_at _ _ _ _ (by simp)]; rfl); have gg := grown_trans ((Grown.refl _).alloc _ _) g1)))
    | ((with_reducible refine (Ck.out _).mono ?_); rintro e w2 ⟨rfl, g2⟩
       replace b0 := kept_cell g2 (b := w.heap.size) (o := 0) (v := .int .u32 k) b0
       replace b1 := kept_cell g2 (b := w.heap.size) (o := 1) (v := .int .i32 r) b1
       replace b2 := kept_cell g2 (b := w.heap.size) (o := 2) (v := .int .i32 ax) b2
       replace b3 := kept_cell g2 (b := w.heap.size) (o := 3) (v := .int .i32 ay) b3
       replace b4 := kept_cell g2 (b := w.heap.size) (o := 4) (v := .int .i32 m) b4
       replace b5 := kept_cell g2 (b := w.heap.size) (o := 5) (v := .int .i32 o) b5
       replace b6 := kept_cell g2 (b := w.heap.size) (o := 6) (v := .int .i32 px) b6
       replace b7 := kept_cell g2 (b := w.heap.size) (o := 7) (v := .int .i32 py) b7
       replace b8 := kept_cell g2 (b := w.heap.size) (o := 8) (v := .int .i32 vx) b8
       replace b9 := kept_cell g2 (b := w.heap.size) (o := 9) (v := .int .i32 vy) b9
       replace gg := grown_trans gg g2
       have zb_w2 : w.heap.size < w2.heap.size := World.block_lt_of_cell? _ _ b0)
    | ((with_reducible refine (K1.out _).mono ?_); rintro e w3 ⟨rfl, g3⟩
       replace gg := grown_trans (gg.alloc _ _) g3))
  go_ret
  exact ⟨rfl, gg⟩

set_option maxRecDepth 100000 in
set_option maxHeartbeats 2000000 in
theorem checks3_hi (k r ax ay m o px py vx vy pt n k1 : Int) (A : Hid BodyAwake) (Ck : Hid (Rck k r ax ay m o px py vx vy 0)) (t1 : pt.tmod 9 = 3) (hk : IntKind.u32.wrap (k + 1) = k1) (_h0 : ¬ n < 0) (_hn : 1048576 < n) (K1 : Hid (Chk k1 r ax ay n o px py vx vy 6)) (w : World) :
    Calls Try.prog 4 #[.agg #[.int .u32 k, .int .i32 r, .int .i32 ax, .int .i32 ay, .int .i32 m, .int .i32 o, .int .i32 px, .int .i32 py, .int .i32 vx, .int .i32 vy], .int .u8 pt, .int .i32 n] w fun e w' => e = .returned (.bool true) ∧ Grown w w' := by
  have t3 : IntKind.u8.wrap 3 = 3 := by decide
  go_enter Try.func4, Try.ntmps4
  go_wp2_with (first
    | ((with_reducible refine (A.out _).mono ?_); rintro e w1 ⟨rfl, g1⟩
       (first | (replace gg := grown_trans gg g1) | (have b0 := kept_cell g1 (b := w.heap.size) (o := 0) (v := .int .u32 k) (by (repeat (first | rw [World.cell?_drew] | rw [World.cell?_alloc_past _ _ _ (by first | (simp; done) | (simp; omega))])); rw [World.cell?_alloc_at _ _ _ _ (by simp)]; rfl); have b1 := kept_cell g1 (b := w.heap.size) (o := 1) (v := .int .i32 r) (by (repeat (first | rw [World.cell?_drew] | rw [World.cell?_alloc_past _ _ _ (by first | (simp; done) | (simp; omega))])); rw [World.cell?_alloc_at _ _ _ _ (by simp)]; rfl); have b2 := kept_cell g1 (b := w.heap.size) (o := 2) (v := .int .i32 ax) (by (repeat (first | rw [World.cell?_drew] | rw [World.cell?_alloc_past _ _ _ (by first | (simp; done) | (simp; omega))])); rw [World.cell?_alloc_at _ _ _ _ (by simp)]; rfl); have b3 := kept_cell g1 (b := w.heap.size) (o := 3) (v := .int .i32 ay) (by (repeat (first | rw [World.cell?_drew] | rw [World.cell?_alloc_past _ _ _ (by first | (simp; done) | (simp; omega))])); rw [World.cell?_alloc_at _ _ _ _ (by simp)]; rfl); have b4 := kept_cell g1 (b := w.heap.size) (o := 4) (v := .int .i32 m) (by (repeat (first | rw [World.cell?_drew] | rw [World.cell?_alloc_past _ _ _ (by first | (simp; done) | (simp; omega))])); rw [World.cell?_alloc_at _ _ _ _ (by simp)]; rfl); have b5 := kept_cell g1 (b := w.heap.size) (o := 5) (v := .int .i32 o) (by (repeat (first | rw [World.cell?_drew] | rw [World.cell?_alloc_past _ _ _ (by first | (simp; done) | (simp; omega))])); rw [World.cell?_alloc_at _ _ _ _ (by simp)]; rfl); have b6 := kept_cell g1 (b := w.heap.size) (o := 6) (v := .int .i32 px) (by (repeat (first | rw [World.cell?_drew] | rw [World.cell?_alloc_past _ _ _ (by first | (simp; done) | (simp; omega))])); rw [World.cell?_alloc_at _ _ _ _ (by simp)]; rfl); have b7 := kept_cell g1 (b := w.heap.size) (o := 7) (v := .int .i32 py) (by (repeat (first | rw [World.cell?_drew] | rw [World.cell?_alloc_past _ _ _ (by first | (simp; done) | (simp; omega))])); rw [World.cell?_alloc_at _ _ _ _ (by simp)]; rfl); have b8 := kept_cell g1 (b := w.heap.size) (o := 8) (v := .int .i32 vx) (by (repeat (first | rw [World.cell?_drew] | rw [World.cell?_alloc_past _ _ _ (by first | (simp; done) | (simp; omega))])); rw [World.cell?_alloc_at _ _ _ _ (by simp)]; rfl); have b9 := kept_cell g1 (b := w.heap.size) (o := 9) (v := .int .i32 vy) (by (repeat (first | rw [World.cell?_drew] | rw [World.cell?_alloc_past _ _ _ (by first | (simp; done) | (simp; omega))])); rw [World.cell?_alloc_at _ _ _ _ (by simp)]; rfl); have gg := grown_trans ((Grown.refl _).alloc _ _) g1)))
    | ((with_reducible refine (Ck.out _).mono ?_); rintro e w2 ⟨rfl, g2⟩
       replace b0 := kept_cell g2 (b := w.heap.size) (o := 0) (v := .int .u32 k) b0
       replace b1 := kept_cell g2 (b := w.heap.size) (o := 1) (v := .int .i32 r) b1
       replace b2 := kept_cell g2 (b := w.heap.size) (o := 2) (v := .int .i32 ax) b2
       replace b3 := kept_cell g2 (b := w.heap.size) (o := 3) (v := .int .i32 ay) b3
       replace b4 := kept_cell g2 (b := w.heap.size) (o := 4) (v := .int .i32 m) b4
       replace b5 := kept_cell g2 (b := w.heap.size) (o := 5) (v := .int .i32 o) b5
       replace b6 := kept_cell g2 (b := w.heap.size) (o := 6) (v := .int .i32 px) b6
       replace b7 := kept_cell g2 (b := w.heap.size) (o := 7) (v := .int .i32 py) b7
       replace b8 := kept_cell g2 (b := w.heap.size) (o := 8) (v := .int .i32 vx) b8
       replace b9 := kept_cell g2 (b := w.heap.size) (o := 9) (v := .int .i32 vy) b9
       replace gg := grown_trans gg g2
       have zb_w2 : w.heap.size < w2.heap.size := World.block_lt_of_cell? _ _ b0)
    | ((with_reducible refine (K1.out _).mono ?_); rintro e w3 ⟨rfl, g3⟩
       replace gg := grown_trans (gg.alloc _ _) g3))
  go_ret
  exact ⟨rfl, gg⟩

set_option maxRecDepth 100000 in
set_option maxHeartbeats 2000000 in
theorem checks3_ok (k r ax ay m o px py vx vy pt n k1 : Int) (A : Hid BodyAwake) (Ck : Hid (Rck k r ax ay m o px py vx vy 0)) (t1 : pt.tmod 9 = 3) (hk : IntKind.u32.wrap (k + 1) = k1) (_h0 : ¬ n < 0) (_hn : ¬ 1048576 < n) (K1 : Hid (Chk k1 r ax ay n o px py vx vy 0)) (w : World) :
    Calls Try.prog 4 #[.agg #[.int .u32 k, .int .i32 r, .int .i32 ax, .int .i32 ay, .int .i32 m, .int .i32 o, .int .i32 px, .int .i32 py, .int .i32 vx, .int .i32 vy], .int .u8 pt, .int .i32 n] w fun e w' => e = .returned (.bool true) ∧ Grown w w' := by
  have t3 : IntKind.u8.wrap 3 = 3 := by decide
  go_enter Try.func4, Try.ntmps4
  go_wp2_with (first
    | ((with_reducible refine (A.out _).mono ?_); rintro e w1 ⟨rfl, g1⟩
       (first | (replace gg := grown_trans gg g1) | (have b0 := kept_cell g1 (b := w.heap.size) (o := 0) (v := .int .u32 k) (by (repeat (first | rw [World.cell?_drew] | rw [World.cell?_alloc_past _ _ _ (by first | (simp; done) | (simp; omega))])); rw [World.cell?_alloc_at _ _ _ _ (by simp)]; rfl); have b1 := kept_cell g1 (b := w.heap.size) (o := 1) (v := .int .i32 r) (by (repeat (first | rw [World.cell?_drew] | rw [World.cell?_alloc_past _ _ _ (by first | (simp; done) | (simp; omega))])); rw [World.cell?_alloc_at _ _ _ _ (by simp)]; rfl); have b2 := kept_cell g1 (b := w.heap.size) (o := 2) (v := .int .i32 ax) (by (repeat (first | rw [World.cell?_drew] | rw [World.cell?_alloc_past _ _ _ (by first | (simp; done) | (simp; omega))])); rw [World.cell?_alloc_at _ _ _ _ (by simp)]; rfl); have b3 := kept_cell g1 (b := w.heap.size) (o := 3) (v := .int .i32 ay) (by (repeat (first | rw [World.cell?_drew] | rw [World.cell?_alloc_past _ _ _ (by first | (simp; done) | (simp; omega))])); rw [World.cell?_alloc_at _ _ _ _ (by simp)]; rfl); have b4 := kept_cell g1 (b := w.heap.size) (o := 4) (v := .int .i32 m) (by (repeat (first | rw [World.cell?_drew] | rw [World.cell?_alloc_past _ _ _ (by first | (simp; done) | (simp; omega))])); rw [World.cell?_alloc_at _ _ _ _ (by simp)]; rfl); have b5 := kept_cell g1 (b := w.heap.size) (o := 5) (v := .int .i32 o) (by (repeat (first | rw [World.cell?_drew] | rw [World.cell?_alloc_past _ _ _ (by first | (simp; done) | (simp; omega))])); rw [World.cell?_alloc_at _ _ _ _ (by simp)]; rfl); have b6 := kept_cell g1 (b := w.heap.size) (o := 6) (v := .int .i32 px) (by (repeat (first | rw [World.cell?_drew] | rw [World.cell?_alloc_past _ _ _ (by first | (simp; done) | (simp; omega))])); rw [World.cell?_alloc_at _ _ _ _ (by simp)]; rfl); have b7 := kept_cell g1 (b := w.heap.size) (o := 7) (v := .int .i32 py) (by (repeat (first | rw [World.cell?_drew] | rw [World.cell?_alloc_past _ _ _ (by first | (simp; done) | (simp; omega))])); rw [World.cell?_alloc_at _ _ _ _ (by simp)]; rfl); have b8 := kept_cell g1 (b := w.heap.size) (o := 8) (v := .int .i32 vx) (by (repeat (first | rw [World.cell?_drew] | rw [World.cell?_alloc_past _ _ _ (by first | (simp; done) | (simp; omega))])); rw [World.cell?_alloc_at _ _ _ _ (by simp)]; rfl); have b9 := kept_cell g1 (b := w.heap.size) (o := 9) (v := .int .i32 vy) (by (repeat (first | rw [World.cell?_drew] | rw [World.cell?_alloc_past _ _ _ (by first | (simp; done) | (simp; omega))])); rw [World.cell?_alloc_at _ _ _ _ (by simp)]; rfl); have gg := grown_trans ((Grown.refl _).alloc _ _) g1)))
    | ((with_reducible refine (Ck.out _).mono ?_); rintro e w2 ⟨rfl, g2⟩
       replace b0 := kept_cell g2 (b := w.heap.size) (o := 0) (v := .int .u32 k) b0
       replace b1 := kept_cell g2 (b := w.heap.size) (o := 1) (v := .int .i32 r) b1
       replace b2 := kept_cell g2 (b := w.heap.size) (o := 2) (v := .int .i32 ax) b2
       replace b3 := kept_cell g2 (b := w.heap.size) (o := 3) (v := .int .i32 ay) b3
       replace b4 := kept_cell g2 (b := w.heap.size) (o := 4) (v := .int .i32 m) b4
       replace b5 := kept_cell g2 (b := w.heap.size) (o := 5) (v := .int .i32 o) b5
       replace b6 := kept_cell g2 (b := w.heap.size) (o := 6) (v := .int .i32 px) b6
       replace b7 := kept_cell g2 (b := w.heap.size) (o := 7) (v := .int .i32 py) b7
       replace b8 := kept_cell g2 (b := w.heap.size) (o := 8) (v := .int .i32 vx) b8
       replace b9 := kept_cell g2 (b := w.heap.size) (o := 9) (v := .int .i32 vy) b9
       replace gg := grown_trans gg g2
       have zb_w2 : w.heap.size < w2.heap.size := World.block_lt_of_cell? _ _ b0)
    | ((with_reducible refine (K1.out _).mono ?_); rintro e w3 ⟨rfl, g3⟩
       replace gg := grown_trans (gg.alloc _ _) g3))
  go_ret
  exact ⟨rfl, gg⟩

set_option maxRecDepth 100000 in
set_option maxHeartbeats 2000000 in
theorem checks4_lo (k r ax ay m o px py vx vy pt n k1 : Int) (A : Hid BodyAwake) (Ck : Hid (Rck k r ax ay m o px py vx vy 0)) (t1 : pt.tmod 9 = 4) (hk : IntKind.u32.wrap (k + 1) = k1) (_hn : n < 0) (K1 : Hid (Chk k1 r ax ay m n px py vx vy 7)) (w : World) :
    Calls Try.prog 4 #[.agg #[.int .u32 k, .int .i32 r, .int .i32 ax, .int .i32 ay, .int .i32 m, .int .i32 o, .int .i32 px, .int .i32 py, .int .i32 vx, .int .i32 vy], .int .u8 pt, .int .i32 n] w fun e w' => e = .returned (.bool true) ∧ Grown w w' := by
  have t3 : IntKind.u8.wrap 4 = 4 := by decide
  go_enter Try.func4, Try.ntmps4
  go_wp2_with (first
    | ((with_reducible refine (A.out _).mono ?_); rintro e w1 ⟨rfl, g1⟩
       (first | (replace gg := grown_trans gg g1) | (have b0 := kept_cell g1 (b := w.heap.size) (o := 0) (v := .int .u32 k) (by (repeat (first | rw [World.cell?_drew] | rw [World.cell?_alloc_past _ _ _ (by first | (simp; done) | (simp; omega))])); rw [World.cell?_alloc_at _ _ _ _ (by simp)]; rfl); have b1 := kept_cell g1 (b := w.heap.size) (o := 1) (v := .int .i32 r) (by (repeat (first | rw [World.cell?_drew] | rw [World.cell?_alloc_past _ _ _ (by first | (simp; done) | (simp; omega))])); rw [World.cell?_alloc_at _ _ _ _ (by simp)]; rfl); have b2 := kept_cell g1 (b := w.heap.size) (o := 2) (v := .int .i32 ax) (by (repeat (first | rw [World.cell?_drew] | rw [World.cell?_alloc_past _ _ _ (by first | (simp; done) | (simp; omega))])); rw [World.cell?_alloc_at _ _ _ _ (by simp)]; rfl); have b3 := kept_cell g1 (b := w.heap.size) (o := 3) (v := .int .i32 ay) (by (repeat (first | rw [World.cell?_drew] | rw [World.cell?_alloc_past _ _ _ (by first | (simp; done) | (simp; omega))])); rw [World.cell?_alloc_at _ _ _ _ (by simp)]; rfl); have b4 := kept_cell g1 (b := w.heap.size) (o := 4) (v := .int .i32 m) (by (repeat (first | rw [World.cell?_drew] | rw [World.cell?_alloc_past _ _ _ (by first | (simp; done) | (simp; omega))])); rw [World.cell?_alloc_at _ _ _ _ (by simp)]; rfl); have b5 := kept_cell g1 (b := w.heap.size) (o := 5) (v := .int .i32 o) (by (repeat (first | rw [World.cell?_drew] | rw [World.cell?_alloc_past _ _ _ (by first | (simp; done) | (simp; omega))])); rw [World.cell?_alloc_at _ _ _ _ (by simp)]; rfl); have b6 := kept_cell g1 (b := w.heap.size) (o := 6) (v := .int .i32 px) (by (repeat (first | rw [World.cell?_drew] | rw [World.cell?_alloc_past _ _ _ (by first | (simp; done) | (simp; omega))])); rw [World.cell?_alloc_at _ _ _ _ (by simp)]; rfl); have b7 := kept_cell g1 (b := w.heap.size) (o := 7) (v := .int .i32 py) (by (repeat (first | rw [World.cell?_drew] | rw [World.cell?_alloc_past _ _ _ (by first | (simp; done) | (simp; omega))])); rw [World.cell?_alloc_at _ _ _ _ (by simp)]; rfl); have b8 := kept_cell g1 (b := w.heap.size) (o := 8) (v := .int .i32 vx) (by (repeat (first | rw [World.cell?_drew] | rw [World.cell?_alloc_past _ _ _ (by first | (simp; done) | (simp; omega))])); rw [World.cell?_alloc_at _ _ _ _ (by simp)]; rfl); have b9 := kept_cell g1 (b := w.heap.size) (o := 9) (v := .int .i32 vy) (by (repeat (first | rw [World.cell?_drew] | rw [World.cell?_alloc_past _ _ _ (by first | (simp; done) | (simp; omega))])); rw [World.cell?_alloc_at _ _ _ _ (by simp)]; rfl); have gg := grown_trans ((Grown.refl _).alloc _ _) g1)))
    | ((with_reducible refine (Ck.out _).mono ?_); rintro e w2 ⟨rfl, g2⟩
       replace b0 := kept_cell g2 (b := w.heap.size) (o := 0) (v := .int .u32 k) b0
       replace b1 := kept_cell g2 (b := w.heap.size) (o := 1) (v := .int .i32 r) b1
       replace b2 := kept_cell g2 (b := w.heap.size) (o := 2) (v := .int .i32 ax) b2
       replace b3 := kept_cell g2 (b := w.heap.size) (o := 3) (v := .int .i32 ay) b3
       replace b4 := kept_cell g2 (b := w.heap.size) (o := 4) (v := .int .i32 m) b4
       replace b5 := kept_cell g2 (b := w.heap.size) (o := 5) (v := .int .i32 o) b5
       replace b6 := kept_cell g2 (b := w.heap.size) (o := 6) (v := .int .i32 px) b6
       replace b7 := kept_cell g2 (b := w.heap.size) (o := 7) (v := .int .i32 py) b7
       replace b8 := kept_cell g2 (b := w.heap.size) (o := 8) (v := .int .i32 vx) b8
       replace b9 := kept_cell g2 (b := w.heap.size) (o := 9) (v := .int .i32 vy) b9
       replace gg := grown_trans gg g2
       have zb_w2 : w.heap.size < w2.heap.size := World.block_lt_of_cell? _ _ b0)
    | ((with_reducible refine (K1.out _).mono ?_); rintro e w3 ⟨rfl, g3⟩
       replace gg := grown_trans (gg.alloc _ _) g3))
  go_ret
  exact ⟨rfl, gg⟩

set_option maxRecDepth 100000 in
set_option maxHeartbeats 2000000 in
theorem checks4_hi (k r ax ay m o px py vx vy pt n k1 : Int) (A : Hid BodyAwake) (Ck : Hid (Rck k r ax ay m o px py vx vy 0)) (t1 : pt.tmod 9 = 4) (hk : IntKind.u32.wrap (k + 1) = k1) (_h0 : ¬ n < 0) (_hn : 65536 < n) (K1 : Hid (Chk k1 r ax ay m n px py vx vy 7)) (w : World) :
    Calls Try.prog 4 #[.agg #[.int .u32 k, .int .i32 r, .int .i32 ax, .int .i32 ay, .int .i32 m, .int .i32 o, .int .i32 px, .int .i32 py, .int .i32 vx, .int .i32 vy], .int .u8 pt, .int .i32 n] w fun e w' => e = .returned (.bool true) ∧ Grown w w' := by
  have t3 : IntKind.u8.wrap 4 = 4 := by decide
  go_enter Try.func4, Try.ntmps4
  go_wp2_with (first
    | ((with_reducible refine (A.out _).mono ?_); rintro e w1 ⟨rfl, g1⟩
       (first | (replace gg := grown_trans gg g1) | (have b0 := kept_cell g1 (b := w.heap.size) (o := 0) (v := .int .u32 k) (by (repeat (first | rw [World.cell?_drew] | rw [World.cell?_alloc_past _ _ _ (by first | (simp; done) | (simp; omega))])); rw [World.cell?_alloc_at _ _ _ _ (by simp)]; rfl); have b1 := kept_cell g1 (b := w.heap.size) (o := 1) (v := .int .i32 r) (by (repeat (first | rw [World.cell?_drew] | rw [World.cell?_alloc_past _ _ _ (by first | (simp; done) | (simp; omega))])); rw [World.cell?_alloc_at _ _ _ _ (by simp)]; rfl); have b2 := kept_cell g1 (b := w.heap.size) (o := 2) (v := .int .i32 ax) (by (repeat (first | rw [World.cell?_drew] | rw [World.cell?_alloc_past _ _ _ (by first | (simp; done) | (simp; omega))])); rw [World.cell?_alloc_at _ _ _ _ (by simp)]; rfl); have b3 := kept_cell g1 (b := w.heap.size) (o := 3) (v := .int .i32 ay) (by (repeat (first | rw [World.cell?_drew] | rw [World.cell?_alloc_past _ _ _ (by first | (simp; done) | (simp; omega))])); rw [World.cell?_alloc_at _ _ _ _ (by simp)]; rfl); have b4 := kept_cell g1 (b := w.heap.size) (o := 4) (v := .int .i32 m) (by (repeat (first | rw [World.cell?_drew] | rw [World.cell?_alloc_past _ _ _ (by first | (simp; done) | (simp; omega))])); rw [World.cell?_alloc_at _ _ _ _ (by simp)]; rfl); have b5 := kept_cell g1 (b := w.heap.size) (o := 5) (v := .int .i32 o) (by (repeat (first | rw [World.cell?_drew] | rw [World.cell?_alloc_past _ _ _ (by first | (simp; done) | (simp; omega))])); rw [World.cell?_alloc_at _ _ _ _ (by simp)]; rfl); have b6 := kept_cell g1 (b := w.heap.size) (o := 6) (v := .int .i32 px) (by (repeat (first | rw [World.cell?_drew] | rw [World.cell?_alloc_past _ _ _ (by first | (simp; done) | (simp; omega))])); rw [World.cell?_alloc_at _ _ _ _ (by simp)]; rfl); have b7 := kept_cell g1 (b := w.heap.size) (o := 7) (v := .int .i32 py) (by (repeat (first | rw [World.cell?_drew] | rw [World.cell?_alloc_past _ _ _ (by first | (simp; done) | (simp; omega))])); rw [World.cell?_alloc_at _ _ _ _ (by simp)]; rfl); have b8 := kept_cell g1 (b := w.heap.size) (o := 8) (v := .int .i32 vx) (by (repeat (first | rw [World.cell?_drew] | rw [World.cell?_alloc_past _ _ _ (by first | (simp; done) | (simp; omega))])); rw [World.cell?_alloc_at _ _ _ _ (by simp)]; rfl); have b9 := kept_cell g1 (b := w.heap.size) (o := 9) (v := .int .i32 vy) (by (repeat (first | rw [World.cell?_drew] | rw [World.cell?_alloc_past _ _ _ (by first | (simp; done) | (simp; omega))])); rw [World.cell?_alloc_at _ _ _ _ (by simp)]; rfl); have gg := grown_trans ((Grown.refl _).alloc _ _) g1)))
    | ((with_reducible refine (Ck.out _).mono ?_); rintro e w2 ⟨rfl, g2⟩
       replace b0 := kept_cell g2 (b := w.heap.size) (o := 0) (v := .int .u32 k) b0
       replace b1 := kept_cell g2 (b := w.heap.size) (o := 1) (v := .int .i32 r) b1
       replace b2 := kept_cell g2 (b := w.heap.size) (o := 2) (v := .int .i32 ax) b2
       replace b3 := kept_cell g2 (b := w.heap.size) (o := 3) (v := .int .i32 ay) b3
       replace b4 := kept_cell g2 (b := w.heap.size) (o := 4) (v := .int .i32 m) b4
       replace b5 := kept_cell g2 (b := w.heap.size) (o := 5) (v := .int .i32 o) b5
       replace b6 := kept_cell g2 (b := w.heap.size) (o := 6) (v := .int .i32 px) b6
       replace b7 := kept_cell g2 (b := w.heap.size) (o := 7) (v := .int .i32 py) b7
       replace b8 := kept_cell g2 (b := w.heap.size) (o := 8) (v := .int .i32 vx) b8
       replace b9 := kept_cell g2 (b := w.heap.size) (o := 9) (v := .int .i32 vy) b9
       replace gg := grown_trans gg g2
       have zb_w2 : w.heap.size < w2.heap.size := World.block_lt_of_cell? _ _ b0)
    | ((with_reducible refine (K1.out _).mono ?_); rintro e w3 ⟨rfl, g3⟩
       replace gg := grown_trans (gg.alloc _ _) g3))
  go_ret
  exact ⟨rfl, gg⟩

set_option maxRecDepth 100000 in
set_option maxHeartbeats 2000000 in
theorem checks4_ok (k r ax ay m o px py vx vy pt n k1 : Int) (A : Hid BodyAwake) (Ck : Hid (Rck k r ax ay m o px py vx vy 0)) (t1 : pt.tmod 9 = 4) (hk : IntKind.u32.wrap (k + 1) = k1) (_h0 : ¬ n < 0) (_hn : ¬ 65536 < n) (K1 : Hid (Chk k1 r ax ay m n px py vx vy 0)) (w : World) :
    Calls Try.prog 4 #[.agg #[.int .u32 k, .int .i32 r, .int .i32 ax, .int .i32 ay, .int .i32 m, .int .i32 o, .int .i32 px, .int .i32 py, .int .i32 vx, .int .i32 vy], .int .u8 pt, .int .i32 n] w fun e w' => e = .returned (.bool true) ∧ Grown w w' := by
  have t3 : IntKind.u8.wrap 4 = 4 := by decide
  go_enter Try.func4, Try.ntmps4
  go_wp2_with (first
    | ((with_reducible refine (A.out _).mono ?_); rintro e w1 ⟨rfl, g1⟩
       (first | (replace gg := grown_trans gg g1) | (have b0 := kept_cell g1 (b := w.heap.size) (o := 0) (v := .int .u32 k) (by (repeat (first | rw [World.cell?_drew] | rw [World.cell?_alloc_past _ _ _ (by first | (simp; done) | (simp; omega))])); rw [World.cell?_alloc_at _ _ _ _ (by simp)]; rfl); have b1 := kept_cell g1 (b := w.heap.size) (o := 1) (v := .int .i32 r) (by (repeat (first | rw [World.cell?_drew] | rw [World.cell?_alloc_past _ _ _ (by first | (simp; done) | (simp; omega))])); rw [World.cell?_alloc_at _ _ _ _ (by simp)]; rfl); have b2 := kept_cell g1 (b := w.heap.size) (o := 2) (v := .int .i32 ax) (by (repeat (first | rw [World.cell?_drew] | rw [World.cell?_alloc_past _ _ _ (by first | (simp; done) | (simp; omega))])); rw [World.cell?_alloc_at _ _ _ _ (by simp)]; rfl); have b3 := kept_cell g1 (b := w.heap.size) (o := 3) (v := .int .i32 ay) (by (repeat (first | rw [World.cell?_drew] | rw [World.cell?_alloc_past _ _ _ (by first | (simp; done) | (simp; omega))])); rw [World.cell?_alloc_at _ _ _ _ (by simp)]; rfl); have b4 := kept_cell g1 (b := w.heap.size) (o := 4) (v := .int .i32 m) (by (repeat (first | rw [World.cell?_drew] | rw [World.cell?_alloc_past _ _ _ (by first | (simp; done) | (simp; omega))])); rw [World.cell?_alloc_at _ _ _ _ (by simp)]; rfl); have b5 := kept_cell g1 (b := w.heap.size) (o := 5) (v := .int .i32 o) (by (repeat (first | rw [World.cell?_drew] | rw [World.cell?_alloc_past _ _ _ (by first | (simp; done) | (simp; omega))])); rw [World.cell?_alloc_at _ _ _ _ (by simp)]; rfl); have b6 := kept_cell g1 (b := w.heap.size) (o := 6) (v := .int .i32 px) (by (repeat (first | rw [World.cell?_drew] | rw [World.cell?_alloc_past _ _ _ (by first | (simp; done) | (simp; omega))])); rw [World.cell?_alloc_at _ _ _ _ (by simp)]; rfl); have b7 := kept_cell g1 (b := w.heap.size) (o := 7) (v := .int .i32 py) (by (repeat (first | rw [World.cell?_drew] | rw [World.cell?_alloc_past _ _ _ (by first | (simp; done) | (simp; omega))])); rw [World.cell?_alloc_at _ _ _ _ (by simp)]; rfl); have b8 := kept_cell g1 (b := w.heap.size) (o := 8) (v := .int .i32 vx) (by (repeat (first | rw [World.cell?_drew] | rw [World.cell?_alloc_past _ _ _ (by first | (simp; done) | (simp; omega))])); rw [World.cell?_alloc_at _ _ _ _ (by simp)]; rfl); have b9 := kept_cell g1 (b := w.heap.size) (o := 9) (v := .int .i32 vy) (by (repeat (first | rw [World.cell?_drew] | rw [World.cell?_alloc_past _ _ _ (by first | (simp; done) | (simp; omega))])); rw [World.cell?_alloc_at _ _ _ _ (by simp)]; rfl); have gg := grown_trans ((Grown.refl _).alloc _ _) g1)))
    | ((with_reducible refine (Ck.out _).mono ?_); rintro e w2 ⟨rfl, g2⟩
       replace b0 := kept_cell g2 (b := w.heap.size) (o := 0) (v := .int .u32 k) b0
       replace b1 := kept_cell g2 (b := w.heap.size) (o := 1) (v := .int .i32 r) b1
       replace b2 := kept_cell g2 (b := w.heap.size) (o := 2) (v := .int .i32 ax) b2
       replace b3 := kept_cell g2 (b := w.heap.size) (o := 3) (v := .int .i32 ay) b3
       replace b4 := kept_cell g2 (b := w.heap.size) (o := 4) (v := .int .i32 m) b4
       replace b5 := kept_cell g2 (b := w.heap.size) (o := 5) (v := .int .i32 o) b5
       replace b6 := kept_cell g2 (b := w.heap.size) (o := 6) (v := .int .i32 px) b6
       replace b7 := kept_cell g2 (b := w.heap.size) (o := 7) (v := .int .i32 py) b7
       replace b8 := kept_cell g2 (b := w.heap.size) (o := 8) (v := .int .i32 vx) b8
       replace b9 := kept_cell g2 (b := w.heap.size) (o := 9) (v := .int .i32 vy) b9
       replace gg := grown_trans gg g2
       have zb_w2 : w.heap.size < w2.heap.size := World.block_lt_of_cell? _ _ b0)
    | ((with_reducible refine (K1.out _).mono ?_); rintro e w3 ⟨rfl, g3⟩
       replace gg := grown_trans (gg.alloc _ _) g3))
  go_ret
  exact ⟨rfl, gg⟩

set_option maxRecDepth 100000 in
set_option maxHeartbeats 2000000 in
theorem checks5_no (k r ax ay m o px py vx vy pt n k1 : Int) (A : Hid BodyAwake) (Ck : Hid (Rck k r ax ay m o px py vx vy 0)) (t1 : pt.tmod 9 = 5) (hk : IntKind.u32.wrap (k + 1) = k1) (J : Hid (RIn n 1073741824 false)) (K1 : Hid (Chk k1 r ax ay m o n py vx vy 8)) (w : World) :
    Calls Try.prog 4 #[.agg #[.int .u32 k, .int .i32 r, .int .i32 ax, .int .i32 ay, .int .i32 m, .int .i32 o, .int .i32 px, .int .i32 py, .int .i32 vx, .int .i32 vy], .int .u8 pt, .int .i32 n] w fun e w' => e = .returned (.bool true) ∧ Grown w w' := by
  have t3 : IntKind.u8.wrap 5 = 5 := by decide
  go_enter Try.func4, Try.ntmps4
  go_wp2_with (first
    | ((with_reducible refine (A.out _).mono ?_); rintro e w1 ⟨rfl, g1⟩
       (first | (replace gg := grown_trans gg g1) | (have b0 := kept_cell g1 (b := w.heap.size) (o := 0) (v := .int .u32 k) (by (repeat (first | rw [World.cell?_drew] | rw [World.cell?_alloc_past _ _ _ (by first | (simp; done) | (simp; omega))])); rw [World.cell?_alloc_at _ _ _ _ (by simp)]; rfl); have b1 := kept_cell g1 (b := w.heap.size) (o := 1) (v := .int .i32 r) (by (repeat (first | rw [World.cell?_drew] | rw [World.cell?_alloc_past _ _ _ (by first | (simp; done) | (simp; omega))])); rw [World.cell?_alloc_at _ _ _ _ (by simp)]; rfl); have b2 := kept_cell g1 (b := w.heap.size) (o := 2) (v := .int .i32 ax) (by (repeat (first | rw [World.cell?_drew] | rw [World.cell?_alloc_past _ _ _ (by first | (simp; done) | (simp; omega))])); rw [World.cell?_alloc_at _ _ _ _ (by simp)]; rfl); have b3 := kept_cell g1 (b := w.heap.size) (o := 3) (v := .int .i32 ay) (by (repeat (first | rw [World.cell?_drew] | rw [World.cell?_alloc_past _ _ _ (by first | (simp; done) | (simp; omega))])); rw [World.cell?_alloc_at _ _ _ _ (by simp)]; rfl); have b4 := kept_cell g1 (b := w.heap.size) (o := 4) (v := .int .i32 m) (by (repeat (first | rw [World.cell?_drew] | rw [World.cell?_alloc_past _ _ _ (by first | (simp; done) | (simp; omega))])); rw [World.cell?_alloc_at _ _ _ _ (by simp)]; rfl); have b5 := kept_cell g1 (b := w.heap.size) (o := 5) (v := .int .i32 o) (by (repeat (first | rw [World.cell?_drew] | rw [World.cell?_alloc_past _ _ _ (by first | (simp; done) | (simp; omega))])); rw [World.cell?_alloc_at _ _ _ _ (by simp)]; rfl); have b6 := kept_cell g1 (b := w.heap.size) (o := 6) (v := .int .i32 px) (by (repeat (first | rw [World.cell?_drew] | rw [World.cell?_alloc_past _ _ _ (by first | (simp; done) | (simp; omega))])); rw [World.cell?_alloc_at _ _ _ _ (by simp)]; rfl); have b7 := kept_cell g1 (b := w.heap.size) (o := 7) (v := .int .i32 py) (by (repeat (first | rw [World.cell?_drew] | rw [World.cell?_alloc_past _ _ _ (by first | (simp; done) | (simp; omega))])); rw [World.cell?_alloc_at _ _ _ _ (by simp)]; rfl); have b8 := kept_cell g1 (b := w.heap.size) (o := 8) (v := .int .i32 vx) (by (repeat (first | rw [World.cell?_drew] | rw [World.cell?_alloc_past _ _ _ (by first | (simp; done) | (simp; omega))])); rw [World.cell?_alloc_at _ _ _ _ (by simp)]; rfl); have b9 := kept_cell g1 (b := w.heap.size) (o := 9) (v := .int .i32 vy) (by (repeat (first | rw [World.cell?_drew] | rw [World.cell?_alloc_past _ _ _ (by first | (simp; done) | (simp; omega))])); rw [World.cell?_alloc_at _ _ _ _ (by simp)]; rfl); have gg := grown_trans ((Grown.refl _).alloc _ _) g1)))
    | ((with_reducible refine (Ck.out _).mono ?_); rintro e w2 ⟨rfl, g2⟩
       replace b0 := kept_cell g2 (b := w.heap.size) (o := 0) (v := .int .u32 k) b0
       replace b1 := kept_cell g2 (b := w.heap.size) (o := 1) (v := .int .i32 r) b1
       replace b2 := kept_cell g2 (b := w.heap.size) (o := 2) (v := .int .i32 ax) b2
       replace b3 := kept_cell g2 (b := w.heap.size) (o := 3) (v := .int .i32 ay) b3
       replace b4 := kept_cell g2 (b := w.heap.size) (o := 4) (v := .int .i32 m) b4
       replace b5 := kept_cell g2 (b := w.heap.size) (o := 5) (v := .int .i32 o) b5
       replace b6 := kept_cell g2 (b := w.heap.size) (o := 6) (v := .int .i32 px) b6
       replace b7 := kept_cell g2 (b := w.heap.size) (o := 7) (v := .int .i32 py) b7
       replace b8 := kept_cell g2 (b := w.heap.size) (o := 8) (v := .int .i32 vx) b8
       replace b9 := kept_cell g2 (b := w.heap.size) (o := 9) (v := .int .i32 vy) b9
       replace gg := grown_trans gg g2
       have zb_w2 : w.heap.size < w2.heap.size := World.block_lt_of_cell? _ _ b0)
    | ((with_reducible refine (J.out _).mono ?_); rintro e w' ⟨rfl, rfl⟩)
    | ((with_reducible refine (K1.out _).mono ?_); rintro e w3 ⟨rfl, g3⟩
       replace gg := grown_trans (gg.alloc _ _) g3))
  go_ret
  exact ⟨rfl, gg⟩

set_option maxRecDepth 100000 in
set_option maxHeartbeats 2000000 in
theorem checks5_ok (k r ax ay m o px py vx vy pt n k1 : Int) (A : Hid BodyAwake) (Ck : Hid (Rck k r ax ay m o px py vx vy 0)) (t1 : pt.tmod 9 = 5) (hk : IntKind.u32.wrap (k + 1) = k1) (J : Hid (RIn n 1073741824 true)) (K1 : Hid (Chk k1 r ax ay m o n py vx vy 0)) (w : World) :
    Calls Try.prog 4 #[.agg #[.int .u32 k, .int .i32 r, .int .i32 ax, .int .i32 ay, .int .i32 m, .int .i32 o, .int .i32 px, .int .i32 py, .int .i32 vx, .int .i32 vy], .int .u8 pt, .int .i32 n] w fun e w' => e = .returned (.bool true) ∧ Grown w w' := by
  have t3 : IntKind.u8.wrap 5 = 5 := by decide
  go_enter Try.func4, Try.ntmps4
  go_wp2_with (first
    | ((with_reducible refine (A.out _).mono ?_); rintro e w1 ⟨rfl, g1⟩
       (first | (replace gg := grown_trans gg g1) | (have b0 := kept_cell g1 (b := w.heap.size) (o := 0) (v := .int .u32 k) (by (repeat (first | rw [World.cell?_drew] | rw [World.cell?_alloc_past _ _ _ (by first | (simp; done) | (simp; omega))])); rw [World.cell?_alloc_at _ _ _ _ (by simp)]; rfl); have b1 := kept_cell g1 (b := w.heap.size) (o := 1) (v := .int .i32 r) (by (repeat (first | rw [World.cell?_drew] | rw [World.cell?_alloc_past _ _ _ (by first | (simp; done) | (simp; omega))])); rw [World.cell?_alloc_at _ _ _ _ (by simp)]; rfl); have b2 := kept_cell g1 (b := w.heap.size) (o := 2) (v := .int .i32 ax) (by (repeat (first | rw [World.cell?_drew] | rw [World.cell?_alloc_past _ _ _ (by first | (simp; done) | (simp; omega))])); rw [World.cell?_alloc_at _ _ _ _ (by simp)]; rfl); have b3 := kept_cell g1 (b := w.heap.size) (o := 3) (v := .int .i32 ay) (by (repeat (first | rw [World.cell?_drew] | rw [World.cell?_alloc_past _ _ _ (by first | (simp; done) | (simp; omega))])); rw [World.cell?_alloc_at _ _ _ _ (by simp)]; rfl); have b4 := kept_cell g1 (b := w.heap.size) (o := 4) (v := .int .i32 m) (by (repeat (first | rw [World.cell?_drew] | rw [World.cell?_alloc_past _ _ _ (by first | (simp; done) | (simp; omega))])); rw [World.cell?_alloc_at _ _ _ _ (by simp)]; rfl); have b5 := kept_cell g1 (b := w.heap.size) (o := 5) (v := .int .i32 o) (by (repeat (first | rw [World.cell?_drew] | rw [World.cell?_alloc_past _ _ _ (by first | (simp; done) | (simp; omega))])); rw [World.cell?_alloc_at _ _ _ _ (by simp)]; rfl); have b6 := kept_cell g1 (b := w.heap.size) (o := 6) (v := .int .i32 px) (by (repeat (first | rw [World.cell?_drew] | rw [World.cell?_alloc_past _ _ _ (by first | (simp; done) | (simp; omega))])); rw [World.cell?_alloc_at _ _ _ _ (by simp)]; rfl); have b7 := kept_cell g1 (b := w.heap.size) (o := 7) (v := .int .i32 py) (by (repeat (first | rw [World.cell?_drew] | rw [World.cell?_alloc_past _ _ _ (by first | (simp; done) | (simp; omega))])); rw [World.cell?_alloc_at _ _ _ _ (by simp)]; rfl); have b8 := kept_cell g1 (b := w.heap.size) (o := 8) (v := .int .i32 vx) (by (repeat (first | rw [World.cell?_drew] | rw [World.cell?_alloc_past _ _ _ (by first | (simp; done) | (simp; omega))])); rw [World.cell?_alloc_at _ _ _ _ (by simp)]; rfl); have b9 := kept_cell g1 (b := w.heap.size) (o := 9) (v := .int .i32 vy) (by (repeat (first | rw [World.cell?_drew] | rw [World.cell?_alloc_past _ _ _ (by first | (simp; done) | (simp; omega))])); rw [World.cell?_alloc_at _ _ _ _ (by simp)]; rfl); have gg := grown_trans ((Grown.refl _).alloc _ _) g1)))
    | ((with_reducible refine (Ck.out _).mono ?_); rintro e w2 ⟨rfl, g2⟩
       replace b0 := kept_cell g2 (b := w.heap.size) (o := 0) (v := .int .u32 k) b0
       replace b1 := kept_cell g2 (b := w.heap.size) (o := 1) (v := .int .i32 r) b1
       replace b2 := kept_cell g2 (b := w.heap.size) (o := 2) (v := .int .i32 ax) b2
       replace b3 := kept_cell g2 (b := w.heap.size) (o := 3) (v := .int .i32 ay) b3
       replace b4 := kept_cell g2 (b := w.heap.size) (o := 4) (v := .int .i32 m) b4
       replace b5 := kept_cell g2 (b := w.heap.size) (o := 5) (v := .int .i32 o) b5
       replace b6 := kept_cell g2 (b := w.heap.size) (o := 6) (v := .int .i32 px) b6
       replace b7 := kept_cell g2 (b := w.heap.size) (o := 7) (v := .int .i32 py) b7
       replace b8 := kept_cell g2 (b := w.heap.size) (o := 8) (v := .int .i32 vx) b8
       replace b9 := kept_cell g2 (b := w.heap.size) (o := 9) (v := .int .i32 vy) b9
       replace gg := grown_trans gg g2
       have zb_w2 : w.heap.size < w2.heap.size := World.block_lt_of_cell? _ _ b0)
    | ((with_reducible refine (J.out _).mono ?_); rintro e w' ⟨rfl, rfl⟩)
    | ((with_reducible refine (K1.out _).mono ?_); rintro e w3 ⟨rfl, g3⟩
       replace gg := grown_trans (gg.alloc _ _) g3))
  go_ret
  exact ⟨rfl, gg⟩

set_option maxRecDepth 100000 in
set_option maxHeartbeats 2000000 in
theorem checks6_no (k r ax ay m o px py vx vy pt n k1 : Int) (A : Hid BodyAwake) (Ck : Hid (Rck k r ax ay m o px py vx vy 0)) (t1 : pt.tmod 9 = 6) (hk : IntKind.u32.wrap (k + 1) = k1) (J : Hid (RIn n 1073741824 false)) (K1 : Hid (Chk k1 r ax ay m o px n vx vy 8)) (w : World) :
    Calls Try.prog 4 #[.agg #[.int .u32 k, .int .i32 r, .int .i32 ax, .int .i32 ay, .int .i32 m, .int .i32 o, .int .i32 px, .int .i32 py, .int .i32 vx, .int .i32 vy], .int .u8 pt, .int .i32 n] w fun e w' => e = .returned (.bool true) ∧ Grown w w' := by
  have t3 : IntKind.u8.wrap 6 = 6 := by decide
  go_enter Try.func4, Try.ntmps4
  go_wp2_with (first
    | ((with_reducible refine (A.out _).mono ?_); rintro e w1 ⟨rfl, g1⟩
       (first | (replace gg := grown_trans gg g1) | (have b0 := kept_cell g1 (b := w.heap.size) (o := 0) (v := .int .u32 k) (by (repeat (first | rw [World.cell?_drew] | rw [World.cell?_alloc_past _ _ _ (by first | (simp; done) | (simp; omega))])); rw [World.cell?_alloc_at _ _ _ _ (by simp)]; rfl); have b1 := kept_cell g1 (b := w.heap.size) (o := 1) (v := .int .i32 r) (by (repeat (first | rw [World.cell?_drew] | rw [World.cell?_alloc_past _ _ _ (by first | (simp; done) | (simp; omega))])); rw [World.cell?_alloc_at _ _ _ _ (by simp)]; rfl); have b2 := kept_cell g1 (b := w.heap.size) (o := 2) (v := .int .i32 ax) (by (repeat (first | rw [World.cell?_drew] | rw [World.cell?_alloc_past _ _ _ (by first | (simp; done) | (simp; omega))])); rw [World.cell?_alloc_at _ _ _ _ (by simp)]; rfl); have b3 := kept_cell g1 (b := w.heap.size) (o := 3) (v := .int .i32 ay) (by (repeat (first | rw [World.cell?_drew] | rw [World.cell?_alloc_past _ _ _ (by first | (simp; done) | (simp; omega))])); rw [World.cell?_alloc_at _ _ _ _ (by simp)]; rfl); have b4 := kept_cell g1 (b := w.heap.size) (o := 4) (v := .int .i32 m) (by (repeat (first | rw [World.cell?_drew] | rw [World.cell?_alloc_past _ _ _ (by first | (simp; done) | (simp; omega))])); rw [World.cell?_alloc_at _ _ _ _ (by simp)]; rfl); have b5 := kept_cell g1 (b := w.heap.size) (o := 5) (v := .int .i32 o) (by (repeat (first | rw [World.cell?_drew] | rw [World.cell?_alloc_past _ _ _ (by first | (simp; done) | (simp; omega))])); rw [World.cell?_alloc_at _ _ _ _ (by simp)]; rfl); have b6 := kept_cell g1 (b := w.heap.size) (o := 6) (v := .int .i32 px) (by (repeat (first | rw [World.cell?_drew] | rw [World.cell?_alloc_past _ _ _ (by first | (simp; done) | (simp; omega))])); rw [World.cell?_alloc_at _ _ _ _ (by simp)]; rfl); have b7 := kept_cell g1 (b := w.heap.size) (o := 7) (v := .int .i32 py) (by (repeat (first | rw [World.cell?_drew] | rw [World.cell?_alloc_past _ _ _ (by first | (simp; done) | (simp; omega))])); rw [World.cell?_alloc_at _ _ _ _ (by simp)]; rfl); have b8 := kept_cell g1 (b := w.heap.size) (o := 8) (v := .int .i32 vx) (by (repeat (first | rw [World.cell?_drew] | rw [World.cell?_alloc_past _ _ _ (by first | (simp; done) | (simp; omega))])); rw [World.cell?_alloc_at _ _ _ _ (by simp)]; rfl); have b9 := kept_cell g1 (b := w.heap.size) (o := 9) (v := .int .i32 vy) (by (repeat (first | rw [World.cell?_drew] | rw [World.cell?_alloc_past _ _ _ (by first | (simp; done) | (simp; omega))])); rw [World.cell?_alloc_at _ _ _ _ (by simp)]; rfl); have gg := grown_trans ((Grown.refl _).alloc _ _) g1)))
    | ((with_reducible refine (Ck.out _).mono ?_); rintro e w2 ⟨rfl, g2⟩
       replace b0 := kept_cell g2 (b := w.heap.size) (o := 0) (v := .int .u32 k) b0
       replace b1 := kept_cell g2 (b := w.heap.size) (o := 1) (v := .int .i32 r) b1
       replace b2 := kept_cell g2 (b := w.heap.size) (o := 2) (v := .int .i32 ax) b2
       replace b3 := kept_cell g2 (b := w.heap.size) (o := 3) (v := .int .i32 ay) b3
       replace b4 := kept_cell g2 (b := w.heap.size) (o := 4) (v := .int .i32 m) b4
       replace b5 := kept_cell g2 (b := w.heap.size) (o := 5) (v := .int .i32 o) b5
       replace b6 := kept_cell g2 (b := w.heap.size) (o := 6) (v := .int .i32 px) b6
       replace b7 := kept_cell g2 (b := w.heap.size) (o := 7) (v := .int .i32 py) b7
       replace b8 := kept_cell g2 (b := w.heap.size) (o := 8) (v := .int .i32 vx) b8
       replace b9 := kept_cell g2 (b := w.heap.size) (o := 9) (v := .int .i32 vy) b9
       replace gg := grown_trans gg g2
       have zb_w2 : w.heap.size < w2.heap.size := World.block_lt_of_cell? _ _ b0)
    | ((with_reducible refine (J.out _).mono ?_); rintro e w' ⟨rfl, rfl⟩)
    | ((with_reducible refine (K1.out _).mono ?_); rintro e w3 ⟨rfl, g3⟩
       replace gg := grown_trans (gg.alloc _ _) g3))
  go_ret
  exact ⟨rfl, gg⟩

set_option maxRecDepth 100000 in
set_option maxHeartbeats 2000000 in
theorem checks6_ok (k r ax ay m o px py vx vy pt n k1 : Int) (A : Hid BodyAwake) (Ck : Hid (Rck k r ax ay m o px py vx vy 0)) (t1 : pt.tmod 9 = 6) (hk : IntKind.u32.wrap (k + 1) = k1) (J : Hid (RIn n 1073741824 true)) (K1 : Hid (Chk k1 r ax ay m o px n vx vy 0)) (w : World) :
    Calls Try.prog 4 #[.agg #[.int .u32 k, .int .i32 r, .int .i32 ax, .int .i32 ay, .int .i32 m, .int .i32 o, .int .i32 px, .int .i32 py, .int .i32 vx, .int .i32 vy], .int .u8 pt, .int .i32 n] w fun e w' => e = .returned (.bool true) ∧ Grown w w' := by
  have t3 : IntKind.u8.wrap 6 = 6 := by decide
  go_enter Try.func4, Try.ntmps4
  go_wp2_with (first
    | ((with_reducible refine (A.out _).mono ?_); rintro e w1 ⟨rfl, g1⟩
       (first | (replace gg := grown_trans gg g1) | (have b0 := kept_cell g1 (b := w.heap.size) (o := 0) (v := .int .u32 k) (by (repeat (first | rw [World.cell?_drew] | rw [World.cell?_alloc_past _ _ _ (by first | (simp; done) | (simp; omega))])); rw [World.cell?_alloc_at _ _ _ _ (by simp)]; rfl); have b1 := kept_cell g1 (b := w.heap.size) (o := 1) (v := .int .i32 r) (by (repeat (first | rw [World.cell?_drew] | rw [World.cell?_alloc_past _ _ _ (by first | (simp; done) | (simp; omega))])); rw [World.cell?_alloc_at _ _ _ _ (by simp)]; rfl); have b2 := kept_cell g1 (b := w.heap.size) (o := 2) (v := .int .i32 ax) (by (repeat (first | rw [World.cell?_drew] | rw [World.cell?_alloc_past _ _ _ (by first | (simp; done) | (simp; omega))])); rw [World.cell?_alloc_at _ _ _ _ (by simp)]; rfl); have b3 := kept_cell g1 (b := w.heap.size) (o := 3) (v := .int .i32 ay) (by (repeat (first | rw [World.cell?_drew] | rw [World.cell?_alloc_past _ _ _ (by first | (simp; done) | (simp; omega))])); rw [World.cell?_alloc_at _ _ _ _ (by simp)]; rfl); have b4 := kept_cell g1 (b := w.heap.size) (o := 4) (v := .int .i32 m) (by (repeat (first | rw [World.cell?_drew] | rw [World.cell?_alloc_past _ _ _ (by first | (simp; done) | (simp; omega))])); rw [World.cell?_alloc_at _ _ _ _ (by simp)]; rfl); have b5 := kept_cell g1 (b := w.heap.size) (o := 5) (v := .int .i32 o) (by (repeat (first | rw [World.cell?_drew] | rw [World.cell?_alloc_past _ _ _ (by first | (simp; done) | (simp; omega))])); rw [World.cell?_alloc_at _ _ _ _ (by simp)]; rfl); have b6 := kept_cell g1 (b := w.heap.size) (o := 6) (v := .int .i32 px) (by (repeat (first | rw [World.cell?_drew] | rw [World.cell?_alloc_past _ _ _ (by first | (simp; done) | (simp; omega))])); rw [World.cell?_alloc_at _ _ _ _ (by simp)]; rfl); have b7 := kept_cell g1 (b := w.heap.size) (o := 7) (v := .int .i32 py) (by (repeat (first | rw [World.cell?_drew] | rw [World.cell?_alloc_past _ _ _ (by first | (simp; done) | (simp; omega))])); rw [World.cell?_alloc_at _ _ _ _ (by simp)]; rfl); have b8 := kept_cell g1 (b := w.heap.size) (o := 8) (v := .int .i32 vx) (by (repeat (first | rw [World.cell?_drew] | rw [World.cell?_alloc_past _ _ _ (by first | (simp; done) | (simp; omega))])); rw [World.cell?_alloc_at _ _ _ _ (by simp)]; rfl); have b9 := kept_cell g1 (b := w.heap.size) (o := 9) (v := .int .i32 vy) (by (repeat (first | rw [World.cell?_drew] | rw [World.cell?_alloc_past _ _ _ (by first | (simp; done) | (simp; omega))])); rw [World.cell?_alloc_at _ _ _ _ (by simp)]; rfl); have gg := grown_trans ((Grown.refl _).alloc _ _) g1)))
    | ((with_reducible refine (Ck.out _).mono ?_); rintro e w2 ⟨rfl, g2⟩
       replace b0 := kept_cell g2 (b := w.heap.size) (o := 0) (v := .int .u32 k) b0
       replace b1 := kept_cell g2 (b := w.heap.size) (o := 1) (v := .int .i32 r) b1
       replace b2 := kept_cell g2 (b := w.heap.size) (o := 2) (v := .int .i32 ax) b2
       replace b3 := kept_cell g2 (b := w.heap.size) (o := 3) (v := .int .i32 ay) b3
       replace b4 := kept_cell g2 (b := w.heap.size) (o := 4) (v := .int .i32 m) b4
       replace b5 := kept_cell g2 (b := w.heap.size) (o := 5) (v := .int .i32 o) b5
       replace b6 := kept_cell g2 (b := w.heap.size) (o := 6) (v := .int .i32 px) b6
       replace b7 := kept_cell g2 (b := w.heap.size) (o := 7) (v := .int .i32 py) b7
       replace b8 := kept_cell g2 (b := w.heap.size) (o := 8) (v := .int .i32 vx) b8
       replace b9 := kept_cell g2 (b := w.heap.size) (o := 9) (v := .int .i32 vy) b9
       replace gg := grown_trans gg g2
       have zb_w2 : w.heap.size < w2.heap.size := World.block_lt_of_cell? _ _ b0)
    | ((with_reducible refine (J.out _).mono ?_); rintro e w' ⟨rfl, rfl⟩)
    | ((with_reducible refine (K1.out _).mono ?_); rintro e w3 ⟨rfl, g3⟩
       replace gg := grown_trans (gg.alloc _ _) g3))
  go_ret
  exact ⟨rfl, gg⟩

set_option maxRecDepth 100000 in
set_option maxHeartbeats 2000000 in
theorem checks7_no (k r ax ay m o px py vx vy pt n k1 : Int) (A : Hid BodyAwake) (Ck : Hid (Rck k r ax ay m o px py vx vy 0)) (t1 : pt.tmod 9 = 7) (hk : IntKind.u32.wrap (k + 1) = k1) (J : Hid (RIn n 16777216 false)) (K1 : Hid (Chk k1 r ax ay m o px py n vy 9)) (w : World) :
    Calls Try.prog 4 #[.agg #[.int .u32 k, .int .i32 r, .int .i32 ax, .int .i32 ay, .int .i32 m, .int .i32 o, .int .i32 px, .int .i32 py, .int .i32 vx, .int .i32 vy], .int .u8 pt, .int .i32 n] w fun e w' => e = .returned (.bool true) ∧ Grown w w' := by
  have t3 : IntKind.u8.wrap 7 = 7 := by decide
  go_enter Try.func4, Try.ntmps4
  go_wp2_with (first
    | ((with_reducible refine (A.out _).mono ?_); rintro e w1 ⟨rfl, g1⟩
       (first | (replace gg := grown_trans gg g1) | (have b0 := kept_cell g1 (b := w.heap.size) (o := 0) (v := .int .u32 k) (by (repeat (first | rw [World.cell?_drew] | rw [World.cell?_alloc_past _ _ _ (by first | (simp; done) | (simp; omega))])); rw [World.cell?_alloc_at _ _ _ _ (by simp)]; rfl); have b1 := kept_cell g1 (b := w.heap.size) (o := 1) (v := .int .i32 r) (by (repeat (first | rw [World.cell?_drew] | rw [World.cell?_alloc_past _ _ _ (by first | (simp; done) | (simp; omega))])); rw [World.cell?_alloc_at _ _ _ _ (by simp)]; rfl); have b2 := kept_cell g1 (b := w.heap.size) (o := 2) (v := .int .i32 ax) (by (repeat (first | rw [World.cell?_drew] | rw [World.cell?_alloc_past _ _ _ (by first | (simp; done) | (simp; omega))])); rw [World.cell?_alloc_at _ _ _ _ (by simp)]; rfl); have b3 := kept_cell g1 (b := w.heap.size) (o := 3) (v := .int .i32 ay) (by (repeat (first | rw [World.cell?_drew] | rw [World.cell?_alloc_past _ _ _ (by first | (simp; done) | (simp; omega))])); rw [World.cell?_alloc_at _ _ _ _ (by simp)]; rfl); have b4 := kept_cell g1 (b := w.heap.size) (o := 4) (v := .int .i32 m) (by (repeat (first | rw [World.cell?_drew] | rw [World.cell?_alloc_past _ _ _ (by first | (simp; done) | (simp; omega))])); rw [World.cell?_alloc_at _ _ _ _ (by simp)]; rfl); have b5 := kept_cell g1 (b := w.heap.size) (o := 5) (v := .int .i32 o) (by (repeat (first | rw [World.cell?_drew] | rw [World.cell?_alloc_past _ _ _ (by first | (simp; done) | (simp; omega))])); rw [World.cell?_alloc_at _ _ _ _ (by simp)]; rfl); have b6 := kept_cell g1 (b := w.heap.size) (o := 6) (v := .int .i32 px) (by (repeat (first | rw [World.cell?_drew] | rw [World.cell?_alloc_past _ _ _ (by first | (simp; done) | (simp; omega))])); rw [World.cell?_alloc_at _ _ _ _ (by simp)]; rfl); have b7 := kept_cell g1 (b := w.heap.size) (o := 7) (v := .int .i32 py) (by (repeat (first | rw [World.cell?_drew] | rw [World.cell?_alloc_past _ _ _ (by first | (simp; done) | (simp; omega))])); rw [World.cell?_alloc_at _ _ _ _ (by simp)]; rfl); have b8 := kept_cell g1 (b := w.heap.size) (o := 8) (v := .int .i32 vx) (by (repeat (first | rw [World.cell?_drew] | rw [World.cell?_alloc_past _ _ _ (by first | (simp; done) | (simp; omega))])); rw [World.cell?_alloc_at _ _ _ _ (by simp)]; rfl); have b9 := kept_cell g1 (b := w.heap.size) (o := 9) (v := .int .i32 vy) (by (repeat (first | rw [World.cell?_drew] | rw [World.cell?_alloc_past _ _ _ (by first | (simp; done) | (simp; omega))])); rw [World.cell?_alloc_at _ _ _ _ (by simp)]; rfl); have gg := grown_trans ((Grown.refl _).alloc _ _) g1)))
    | ((with_reducible refine (Ck.out _).mono ?_); rintro e w2 ⟨rfl, g2⟩
       replace b0 := kept_cell g2 (b := w.heap.size) (o := 0) (v := .int .u32 k) b0
       replace b1 := kept_cell g2 (b := w.heap.size) (o := 1) (v := .int .i32 r) b1
       replace b2 := kept_cell g2 (b := w.heap.size) (o := 2) (v := .int .i32 ax) b2
       replace b3 := kept_cell g2 (b := w.heap.size) (o := 3) (v := .int .i32 ay) b3
       replace b4 := kept_cell g2 (b := w.heap.size) (o := 4) (v := .int .i32 m) b4
       replace b5 := kept_cell g2 (b := w.heap.size) (o := 5) (v := .int .i32 o) b5
       replace b6 := kept_cell g2 (b := w.heap.size) (o := 6) (v := .int .i32 px) b6
       replace b7 := kept_cell g2 (b := w.heap.size) (o := 7) (v := .int .i32 py) b7
       replace b8 := kept_cell g2 (b := w.heap.size) (o := 8) (v := .int .i32 vx) b8
       replace b9 := kept_cell g2 (b := w.heap.size) (o := 9) (v := .int .i32 vy) b9
       replace gg := grown_trans gg g2
       have zb_w2 : w.heap.size < w2.heap.size := World.block_lt_of_cell? _ _ b0)
    | ((with_reducible refine (J.out _).mono ?_); rintro e w' ⟨rfl, rfl⟩)
    | ((with_reducible refine (K1.out _).mono ?_); rintro e w3 ⟨rfl, g3⟩
       replace gg := grown_trans (gg.alloc _ _) g3))
  go_ret
  exact ⟨rfl, gg⟩

set_option maxRecDepth 100000 in
set_option maxHeartbeats 2000000 in
theorem checks7_ok (k r ax ay m o px py vx vy pt n k1 : Int) (A : Hid BodyAwake) (Ck : Hid (Rck k r ax ay m o px py vx vy 0)) (t1 : pt.tmod 9 = 7) (hk : IntKind.u32.wrap (k + 1) = k1) (J : Hid (RIn n 16777216 true)) (K1 : Hid (Chk k1 r ax ay m o px py n vy 0)) (w : World) :
    Calls Try.prog 4 #[.agg #[.int .u32 k, .int .i32 r, .int .i32 ax, .int .i32 ay, .int .i32 m, .int .i32 o, .int .i32 px, .int .i32 py, .int .i32 vx, .int .i32 vy], .int .u8 pt, .int .i32 n] w fun e w' => e = .returned (.bool true) ∧ Grown w w' := by
  have t3 : IntKind.u8.wrap 7 = 7 := by decide
  go_enter Try.func4, Try.ntmps4
  go_wp2_with (first
    | ((with_reducible refine (A.out _).mono ?_); rintro e w1 ⟨rfl, g1⟩
       (first | (replace gg := grown_trans gg g1) | (have b0 := kept_cell g1 (b := w.heap.size) (o := 0) (v := .int .u32 k) (by (repeat (first | rw [World.cell?_drew] | rw [World.cell?_alloc_past _ _ _ (by first | (simp; done) | (simp; omega))])); rw [World.cell?_alloc_at _ _ _ _ (by simp)]; rfl); have b1 := kept_cell g1 (b := w.heap.size) (o := 1) (v := .int .i32 r) (by (repeat (first | rw [World.cell?_drew] | rw [World.cell?_alloc_past _ _ _ (by first | (simp; done) | (simp; omega))])); rw [World.cell?_alloc_at _ _ _ _ (by simp)]; rfl); have b2 := kept_cell g1 (b := w.heap.size) (o := 2) (v := .int .i32 ax) (by (repeat (first | rw [World.cell?_drew] | rw [World.cell?_alloc_past _ _ _ (by first | (simp; done) | (simp; omega))])); rw [World.cell?_alloc_at _ _ _ _ (by simp)]; rfl); have b3 := kept_cell g1 (b := w.heap.size) (o := 3) (v := .int .i32 ay) (by (repeat (first | rw [World.cell?_drew] | rw [World.cell?_alloc_past _ _ _ (by first | (simp; done) | (simp; omega))])); rw [World.cell?_alloc_at _ _ _ _ (by simp)]; rfl); have b4 := kept_cell g1 (b := w.heap.size) (o := 4) (v := .int .i32 m) (by (repeat (first | rw [World.cell?_drew] | rw [World.cell?_alloc_past _ _ _ (by first | (simp; done) | (simp; omega))])); rw [World.cell?_alloc_at _ _ _ _ (by simp)]; rfl); have b5 := kept_cell g1 (b := w.heap.size) (o := 5) (v := .int .i32 o) (by (repeat (first | rw [World.cell?_drew] | rw [World.cell?_alloc_past _ _ _ (by first | (simp; done) | (simp; omega))])); rw [World.cell?_alloc_at _ _ _ _ (by simp)]; rfl); have b6 := kept_cell g1 (b := w.heap.size) (o := 6) (v := .int .i32 px) (by (repeat (first | rw [World.cell?_drew] | rw [World.cell?_alloc_past _ _ _ (by first | (simp; done) | (simp; omega))])); rw [World.cell?_alloc_at _ _ _ _ (by simp)]; rfl); have b7 := kept_cell g1 (b := w.heap.size) (o := 7) (v := .int .i32 py) (by (repeat (first | rw [World.cell?_drew] | rw [World.cell?_alloc_past _ _ _ (by first | (simp; done) | (simp; omega))])); rw [World.cell?_alloc_at _ _ _ _ (by simp)]; rfl); have b8 := kept_cell g1 (b := w.heap.size) (o := 8) (v := .int .i32 vx) (by (repeat (first | rw [World.cell?_drew] | rw [World.cell?_alloc_past _ _ _ (by first | (simp; done) | (simp; omega))])); rw [World.cell?_alloc_at _ _ _ _ (by simp)]; rfl); have b9 := kept_cell g1 (b := w.heap.size) (o := 9) (v := .int .i32 vy) (by (repeat (first | rw [World.cell?_drew] | rw [World.cell?_alloc_past _ _ _ (by first | (simp; done) | (simp; omega))])); rw [World.cell?_alloc_at _ _ _ _ (by simp)]; rfl); have gg := grown_trans ((Grown.refl _).alloc _ _) g1)))
    | ((with_reducible refine (Ck.out _).mono ?_); rintro e w2 ⟨rfl, g2⟩
       replace b0 := kept_cell g2 (b := w.heap.size) (o := 0) (v := .int .u32 k) b0
       replace b1 := kept_cell g2 (b := w.heap.size) (o := 1) (v := .int .i32 r) b1
       replace b2 := kept_cell g2 (b := w.heap.size) (o := 2) (v := .int .i32 ax) b2
       replace b3 := kept_cell g2 (b := w.heap.size) (o := 3) (v := .int .i32 ay) b3
       replace b4 := kept_cell g2 (b := w.heap.size) (o := 4) (v := .int .i32 m) b4
       replace b5 := kept_cell g2 (b := w.heap.size) (o := 5) (v := .int .i32 o) b5
       replace b6 := kept_cell g2 (b := w.heap.size) (o := 6) (v := .int .i32 px) b6
       replace b7 := kept_cell g2 (b := w.heap.size) (o := 7) (v := .int .i32 py) b7
       replace b8 := kept_cell g2 (b := w.heap.size) (o := 8) (v := .int .i32 vx) b8
       replace b9 := kept_cell g2 (b := w.heap.size) (o := 9) (v := .int .i32 vy) b9
       replace gg := grown_trans gg g2
       have zb_w2 : w.heap.size < w2.heap.size := World.block_lt_of_cell? _ _ b0)
    | ((with_reducible refine (J.out _).mono ?_); rintro e w' ⟨rfl, rfl⟩)
    | ((with_reducible refine (K1.out _).mono ?_); rintro e w3 ⟨rfl, g3⟩
       replace gg := grown_trans (gg.alloc _ _) g3))
  go_ret
  exact ⟨rfl, gg⟩

set_option maxRecDepth 100000 in
set_option maxHeartbeats 2000000 in
theorem checks8_no (k r ax ay m o px py vx vy pt n k1 : Int) (A : Hid BodyAwake) (Ck : Hid (Rck k r ax ay m o px py vx vy 0)) (t1 : pt.tmod 9 = 8) (hk : IntKind.u32.wrap (k + 1) = k1) (J : Hid (RIn n 16777216 false)) (K1 : Hid (Chk k1 r ax ay m o px py vx n 9)) (w : World) :
    Calls Try.prog 4 #[.agg #[.int .u32 k, .int .i32 r, .int .i32 ax, .int .i32 ay, .int .i32 m, .int .i32 o, .int .i32 px, .int .i32 py, .int .i32 vx, .int .i32 vy], .int .u8 pt, .int .i32 n] w fun e w' => e = .returned (.bool true) ∧ Grown w w' := by
  have t3 : IntKind.u8.wrap 8 = 8 := by decide
  go_enter Try.func4, Try.ntmps4
  go_wp2_with (first
    | ((with_reducible refine (A.out _).mono ?_); rintro e w1 ⟨rfl, g1⟩
       (first | (replace gg := grown_trans gg g1) | (have b0 := kept_cell g1 (b := w.heap.size) (o := 0) (v := .int .u32 k) (by (repeat (first | rw [World.cell?_drew] | rw [World.cell?_alloc_past _ _ _ (by first | (simp; done) | (simp; omega))])); rw [World.cell?_alloc_at _ _ _ _ (by simp)]; rfl); have b1 := kept_cell g1 (b := w.heap.size) (o := 1) (v := .int .i32 r) (by (repeat (first | rw [World.cell?_drew] | rw [World.cell?_alloc_past _ _ _ (by first | (simp; done) | (simp; omega))])); rw [World.cell?_alloc_at _ _ _ _ (by simp)]; rfl); have b2 := kept_cell g1 (b := w.heap.size) (o := 2) (v := .int .i32 ax) (by (repeat (first | rw [World.cell?_drew] | rw [World.cell?_alloc_past _ _ _ (by first | (simp; done) | (simp; omega))])); rw [World.cell?_alloc_at _ _ _ _ (by simp)]; rfl); have b3 := kept_cell g1 (b := w.heap.size) (o := 3) (v := .int .i32 ay) (by (repeat (first | rw [World.cell?_drew] | rw [World.cell?_alloc_past _ _ _ (by first | (simp; done) | (simp; omega))])); rw [World.cell?_alloc_at _ _ _ _ (by simp)]; rfl); have b4 := kept_cell g1 (b := w.heap.size) (o := 4) (v := .int .i32 m) (by (repeat (first | rw [World.cell?_drew] | rw [World.cell?_alloc_past _ _ _ (by first | (simp; done) | (simp; omega))])); rw [World.cell?_alloc_at _ _ _ _ (by simp)]; rfl); have b5 := kept_cell g1 (b := w.heap.size) (o := 5) (v := .int .i32 o) (by (repeat (first | rw [World.cell?_drew] | rw [World.cell?_alloc_past _ _ _ (by first | (simp; done) | (simp; omega))])); rw [World.cell?_alloc_at _ _ _ _ (by simp)]; rfl); have b6 := kept_cell g1 (b := w.heap.size) (o := 6) (v := .int .i32 px) (by (repeat (first | rw [World.cell?_drew] | rw [World.cell?_alloc_past _ _ _ (by first | (simp; done) | (simp; omega))])); rw [World.cell?_alloc_at _ _ _ _ (by simp)]; rfl); have b7 := kept_cell g1 (b := w.heap.size) (o := 7) (v := .int .i32 py) (by (repeat (first | rw [World.cell?_drew] | rw [World.cell?_alloc_past _ _ _ (by first | (simp; done) | (simp; omega))])); rw [World.cell?_alloc_at _ _ _ _ (by simp)]; rfl); have b8 := kept_cell g1 (b := w.heap.size) (o := 8) (v := .int .i32 vx) (by (repeat (first | rw [World.cell?_drew] | rw [World.cell?_alloc_past _ _ _ (by first | (simp; done) | (simp; omega))])); rw [World.cell?_alloc_at _ _ _ _ (by simp)]; rfl); have b9 := kept_cell g1 (b := w.heap.size) (o := 9) (v := .int .i32 vy) (by (repeat (first | rw [World.cell?_drew] | rw [World.cell?_alloc_past _ _ _ (by first | (simp; done) | (simp; omega))])); rw [World.cell?_alloc_at _ _ _ _ (by simp)]; rfl); have gg := grown_trans ((Grown.refl _).alloc _ _) g1)))
    | ((with_reducible refine (Ck.out _).mono ?_); rintro e w2 ⟨rfl, g2⟩
       replace b0 := kept_cell g2 (b := w.heap.size) (o := 0) (v := .int .u32 k) b0
       replace b1 := kept_cell g2 (b := w.heap.size) (o := 1) (v := .int .i32 r) b1
       replace b2 := kept_cell g2 (b := w.heap.size) (o := 2) (v := .int .i32 ax) b2
       replace b3 := kept_cell g2 (b := w.heap.size) (o := 3) (v := .int .i32 ay) b3
       replace b4 := kept_cell g2 (b := w.heap.size) (o := 4) (v := .int .i32 m) b4
       replace b5 := kept_cell g2 (b := w.heap.size) (o := 5) (v := .int .i32 o) b5
       replace b6 := kept_cell g2 (b := w.heap.size) (o := 6) (v := .int .i32 px) b6
       replace b7 := kept_cell g2 (b := w.heap.size) (o := 7) (v := .int .i32 py) b7
       replace b8 := kept_cell g2 (b := w.heap.size) (o := 8) (v := .int .i32 vx) b8
       replace b9 := kept_cell g2 (b := w.heap.size) (o := 9) (v := .int .i32 vy) b9
       replace gg := grown_trans gg g2
       have zb_w2 : w.heap.size < w2.heap.size := World.block_lt_of_cell? _ _ b0)
    | ((with_reducible refine (J.out _).mono ?_); rintro e w' ⟨rfl, rfl⟩)
    | ((with_reducible refine (K1.out _).mono ?_); rintro e w3 ⟨rfl, g3⟩
       replace gg := grown_trans (gg.alloc _ _) g3))
  go_ret
  exact ⟨rfl, gg⟩

set_option maxRecDepth 100000 in
set_option maxHeartbeats 2000000 in
theorem checks8_ok (k r ax ay m o px py vx vy pt n k1 : Int) (A : Hid BodyAwake) (Ck : Hid (Rck k r ax ay m o px py vx vy 0)) (t1 : pt.tmod 9 = 8) (hk : IntKind.u32.wrap (k + 1) = k1) (J : Hid (RIn n 16777216 true)) (K1 : Hid (Chk k1 r ax ay m o px py vx n 0)) (w : World) :
    Calls Try.prog 4 #[.agg #[.int .u32 k, .int .i32 r, .int .i32 ax, .int .i32 ay, .int .i32 m, .int .i32 o, .int .i32 px, .int .i32 py, .int .i32 vx, .int .i32 vy], .int .u8 pt, .int .i32 n] w fun e w' => e = .returned (.bool true) ∧ Grown w w' := by
  have t3 : IntKind.u8.wrap 8 = 8 := by decide
  go_enter Try.func4, Try.ntmps4
  go_wp2_with (first
    | ((with_reducible refine (A.out _).mono ?_); rintro e w1 ⟨rfl, g1⟩
       (first | (replace gg := grown_trans gg g1) | (have b0 := kept_cell g1 (b := w.heap.size) (o := 0) (v := .int .u32 k) (by (repeat (first | rw [World.cell?_drew] | rw [World.cell?_alloc_past _ _ _ (by first | (simp; done) | (simp; omega))])); rw [World.cell?_alloc_at _ _ _ _ (by simp)]; rfl); have b1 := kept_cell g1 (b := w.heap.size) (o := 1) (v := .int .i32 r) (by (repeat (first | rw [World.cell?_drew] | rw [World.cell?_alloc_past _ _ _ (by first | (simp; done) | (simp; omega))])); rw [World.cell?_alloc_at _ _ _ _ (by simp)]; rfl); have b2 := kept_cell g1 (b := w.heap.size) (o := 2) (v := .int .i32 ax) (by (repeat (first | rw [World.cell?_drew] | rw [World.cell?_alloc_past _ _ _ (by first | (simp; done) | (simp; omega))])); rw [World.cell?_alloc_at _ _ _ _ (by simp)]; rfl); have b3 := kept_cell g1 (b := w.heap.size) (o := 3) (v := .int .i32 ay) (by (repeat (first | rw [World.cell?_drew] | rw [World.cell?_alloc_past _ _ _ (by first | (simp; done) | (simp; omega))])); rw [World.cell?_alloc_at _ _ _ _ (by simp)]; rfl); have b4 := kept_cell g1 (b := w.heap.size) (o := 4) (v := .int .i32 m) (by (repeat (first | rw [World.cell?_drew] | rw [World.cell?_alloc_past _ _ _ (by first | (simp; done) | (simp; omega))])); rw [World.cell?_alloc_at _ _ _ _ (by simp)]; rfl); have b5 := kept_cell g1 (b := w.heap.size) (o := 5) (v := .int .i32 o) (by (repeat (first | rw [World.cell?_drew] | rw [World.cell?_alloc_past _ _ _ (by first | (simp; done) | (simp; omega))])); rw [World.cell?_alloc_at _ _ _ _ (by simp)]; rfl); have b6 := kept_cell g1 (b := w.heap.size) (o := 6) (v := .int .i32 px) (by (repeat (first | rw [World.cell?_drew] | rw [World.cell?_alloc_past _ _ _ (by first | (simp; done) | (simp; omega))])); rw [World.cell?_alloc_at _ _ _ _ (by simp)]; rfl); have b7 := kept_cell g1 (b := w.heap.size) (o := 7) (v := .int .i32 py) (by (repeat (first | rw [World.cell?_drew] | rw [World.cell?_alloc_past _ _ _ (by first | (simp; done) | (simp; omega))])); rw [World.cell?_alloc_at _ _ _ _ (by simp)]; rfl); have b8 := kept_cell g1 (b := w.heap.size) (o := 8) (v := .int .i32 vx) (by (repeat (first | rw [World.cell?_drew] | rw [World.cell?_alloc_past _ _ _ (by first | (simp; done) | (simp; omega))])); rw [World.cell?_alloc_at _ _ _ _ (by simp)]; rfl); have b9 := kept_cell g1 (b := w.heap.size) (o := 9) (v := .int .i32 vy) (by (repeat (first | rw [World.cell?_drew] | rw [World.cell?_alloc_past _ _ _ (by first | (simp; done) | (simp; omega))])); rw [World.cell?_alloc_at _ _ _ _ (by simp)]; rfl); have gg := grown_trans ((Grown.refl _).alloc _ _) g1)))
    | ((with_reducible refine (Ck.out _).mono ?_); rintro e w2 ⟨rfl, g2⟩
       replace b0 := kept_cell g2 (b := w.heap.size) (o := 0) (v := .int .u32 k) b0
       replace b1 := kept_cell g2 (b := w.heap.size) (o := 1) (v := .int .i32 r) b1
       replace b2 := kept_cell g2 (b := w.heap.size) (o := 2) (v := .int .i32 ax) b2
       replace b3 := kept_cell g2 (b := w.heap.size) (o := 3) (v := .int .i32 ay) b3
       replace b4 := kept_cell g2 (b := w.heap.size) (o := 4) (v := .int .i32 m) b4
       replace b5 := kept_cell g2 (b := w.heap.size) (o := 5) (v := .int .i32 o) b5
       replace b6 := kept_cell g2 (b := w.heap.size) (o := 6) (v := .int .i32 px) b6
       replace b7 := kept_cell g2 (b := w.heap.size) (o := 7) (v := .int .i32 py) b7
       replace b8 := kept_cell g2 (b := w.heap.size) (o := 8) (v := .int .i32 vx) b8
       replace b9 := kept_cell g2 (b := w.heap.size) (o := 9) (v := .int .i32 vy) b9
       replace gg := grown_trans gg g2
       have zb_w2 : w.heap.size < w2.heap.size := World.block_lt_of_cell? _ _ b0)
    | ((with_reducible refine (J.out _).mono ?_); rintro e w' ⟨rfl, rfl⟩)
    | ((with_reducible refine (K1.out _).mono ?_); rintro e w3 ⟨rfl, g3⟩
       replace gg := grown_trans (gg.alloc _ _) g3))
  go_ret
  exact ⟨rfl, gg⟩

theorem checks_all (k r ax ay m o px py vx vy pt n : Int) (hp : 0 ≤ pt ∧ pt < 256) (_hn : -2147483648 ≤ n ∧ n < 2147483648) (w : World) : Calls Try.prog 4 #[.agg #[.int .u32 k, .int .i32 r, .int .i32 ax, .int .i32 ay, .int .i32 m, .int .i32 o, .int .i32 px, .int .i32 py, .int .i32 vx, .int .i32 vy], .int .u8 pt, .int .i32 n] w fun e w' => e = .returned (.bool true) ∧ Grown w w' := by
  by_cases h : chk r ax ay m o px py vx vy = 0
  · obtain ⟨h1, ⟨h2, h3⟩, h4, h5, ⟨h6, h7⟩, h8, h9⟩ := chk0 h
    have hq : pt % 9 = 0 ∨ pt % 9 = 1 ∨ pt % 9 = 2 ∨ pt % 9 = 3 ∨ pt % 9 = 4 ∨ pt % 9 = 5 ∨ pt % 9 = 6 ∨ pt % 9 = 7 ∨ pt % 9 = 8 := by omega
    rcases hq with t | t | t | t | t | t | t | t | t
    · by_cases c1 : n < 4096
      · exact checks0_lo k r ax ay m o px py vx vy pt n _ (Lib.hid body_awake) (Lib.hid (rck k r ax ay m o px py vx vy 0 h)) (by rw [Int.tmod_eq_emod_of_nonneg hp.1]; exact t) rfl c1 (Lib.hid (chk_of _ (by unfold chk; repeat (first | rw [if_pos (by omega)] | rw [if_neg (by omega)])))) w
      · by_cases c2 : 4194304 < n
        · exact checks0_hi k r ax ay m o px py vx vy pt n _ (Lib.hid body_awake) (Lib.hid (rck k r ax ay m o px py vx vy 0 h)) (by rw [Int.tmod_eq_emod_of_nonneg hp.1]; exact t) rfl c1 c2 (Lib.hid (chk_of _ (by unfold chk; repeat (first | rw [if_pos (by omega)] | rw [if_neg (by omega)])))) w
        · exact checks0_ok k r ax ay m o px py vx vy pt n _ (Lib.hid body_awake) (Lib.hid (rck k r ax ay m o px py vx vy 0 h)) (by rw [Int.tmod_eq_emod_of_nonneg hp.1]; exact t) rfl c1 c2 (Lib.hid (chk_of _ (by unfold chk; repeat (first | rw [if_pos (by omega)] | rw [if_neg (by omega)])))) w
    · by_cases c1 : -4194304 ≤ n ∧ n ≤ 4194304
      · exact checks1_ok k r ax ay m o px py vx vy pt n _ (Lib.hid body_awake) (Lib.hid (rck k r ax ay m o px py vx vy 0 h)) (by rw [Int.tmod_eq_emod_of_nonneg hp.1]; exact t) rfl (Lib.hid (rin (by decide) (by decide) (decide_eq_true c1))) (Lib.hid (chk_of _ (by unfold chk; repeat (first | rw [if_pos (by omega)] | rw [if_neg (by omega)])))) w
      · exact checks1_no k r ax ay m o px py vx vy pt n _ (Lib.hid body_awake) (Lib.hid (rck k r ax ay m o px py vx vy 0 h)) (by rw [Int.tmod_eq_emod_of_nonneg hp.1]; exact t) rfl (Lib.hid (rin (by decide) (by decide) (decide_eq_false c1))) (Lib.hid (chk_of _ (by unfold chk; repeat (first | rw [if_pos (by omega)] | rw [if_neg (by omega)])))) w
    · by_cases c1 : -4194304 ≤ n ∧ n ≤ 4194304
      · exact checks2_ok k r ax ay m o px py vx vy pt n _ (Lib.hid body_awake) (Lib.hid (rck k r ax ay m o px py vx vy 0 h)) (by rw [Int.tmod_eq_emod_of_nonneg hp.1]; exact t) rfl (Lib.hid (rin (by decide) (by decide) (decide_eq_true c1))) (Lib.hid (chk_of _ (by unfold chk; repeat (first | rw [if_pos (by omega)] | rw [if_neg (by omega)])))) w
      · exact checks2_no k r ax ay m o px py vx vy pt n _ (Lib.hid body_awake) (Lib.hid (rck k r ax ay m o px py vx vy 0 h)) (by rw [Int.tmod_eq_emod_of_nonneg hp.1]; exact t) rfl (Lib.hid (rin (by decide) (by decide) (decide_eq_false c1))) (Lib.hid (chk_of _ (by unfold chk; repeat (first | rw [if_pos (by omega)] | rw [if_neg (by omega)])))) w
    · by_cases c1 : n < 0
      · exact checks3_lo k r ax ay m o px py vx vy pt n _ (Lib.hid body_awake) (Lib.hid (rck k r ax ay m o px py vx vy 0 h)) (by rw [Int.tmod_eq_emod_of_nonneg hp.1]; exact t) rfl c1 (Lib.hid (chk_of _ (by unfold chk; repeat (first | rw [if_pos (by omega)] | rw [if_neg (by omega)])))) w
      · by_cases c2 : 1048576 < n
        · exact checks3_hi k r ax ay m o px py vx vy pt n _ (Lib.hid body_awake) (Lib.hid (rck k r ax ay m o px py vx vy 0 h)) (by rw [Int.tmod_eq_emod_of_nonneg hp.1]; exact t) rfl c1 c2 (Lib.hid (chk_of _ (by unfold chk; repeat (first | rw [if_pos (by omega)] | rw [if_neg (by omega)])))) w
        · exact checks3_ok k r ax ay m o px py vx vy pt n _ (Lib.hid body_awake) (Lib.hid (rck k r ax ay m o px py vx vy 0 h)) (by rw [Int.tmod_eq_emod_of_nonneg hp.1]; exact t) rfl c1 c2 (Lib.hid (chk_of _ (by unfold chk; repeat (first | rw [if_pos (by omega)] | rw [if_neg (by omega)])))) w
    · by_cases c1 : n < 0
      · exact checks4_lo k r ax ay m o px py vx vy pt n _ (Lib.hid body_awake) (Lib.hid (rck k r ax ay m o px py vx vy 0 h)) (by rw [Int.tmod_eq_emod_of_nonneg hp.1]; exact t) rfl c1 (Lib.hid (chk_of _ (by unfold chk; repeat (first | rw [if_pos (by omega)] | rw [if_neg (by omega)])))) w
      · by_cases c2 : 65536 < n
        · exact checks4_hi k r ax ay m o px py vx vy pt n _ (Lib.hid body_awake) (Lib.hid (rck k r ax ay m o px py vx vy 0 h)) (by rw [Int.tmod_eq_emod_of_nonneg hp.1]; exact t) rfl c1 c2 (Lib.hid (chk_of _ (by unfold chk; repeat (first | rw [if_pos (by omega)] | rw [if_neg (by omega)])))) w
        · exact checks4_ok k r ax ay m o px py vx vy pt n _ (Lib.hid body_awake) (Lib.hid (rck k r ax ay m o px py vx vy 0 h)) (by rw [Int.tmod_eq_emod_of_nonneg hp.1]; exact t) rfl c1 c2 (Lib.hid (chk_of _ (by unfold chk; repeat (first | rw [if_pos (by omega)] | rw [if_neg (by omega)])))) w
    · by_cases c1 : -1073741824 ≤ n ∧ n ≤ 1073741824
      · exact checks5_ok k r ax ay m o px py vx vy pt n _ (Lib.hid body_awake) (Lib.hid (rck k r ax ay m o px py vx vy 0 h)) (by rw [Int.tmod_eq_emod_of_nonneg hp.1]; exact t) rfl (Lib.hid (rin (by decide) (by decide) (decide_eq_true c1))) (Lib.hid (chk_of _ (by unfold chk; repeat (first | rw [if_pos (by omega)] | rw [if_neg (by omega)])))) w
      · exact checks5_no k r ax ay m o px py vx vy pt n _ (Lib.hid body_awake) (Lib.hid (rck k r ax ay m o px py vx vy 0 h)) (by rw [Int.tmod_eq_emod_of_nonneg hp.1]; exact t) rfl (Lib.hid (rin (by decide) (by decide) (decide_eq_false c1))) (Lib.hid (chk_of _ (by unfold chk; repeat (first | rw [if_pos (by omega)] | rw [if_neg (by omega)])))) w
    · by_cases c1 : -1073741824 ≤ n ∧ n ≤ 1073741824
      · exact checks6_ok k r ax ay m o px py vx vy pt n _ (Lib.hid body_awake) (Lib.hid (rck k r ax ay m o px py vx vy 0 h)) (by rw [Int.tmod_eq_emod_of_nonneg hp.1]; exact t) rfl (Lib.hid (rin (by decide) (by decide) (decide_eq_true c1))) (Lib.hid (chk_of _ (by unfold chk; repeat (first | rw [if_pos (by omega)] | rw [if_neg (by omega)])))) w
      · exact checks6_no k r ax ay m o px py vx vy pt n _ (Lib.hid body_awake) (Lib.hid (rck k r ax ay m o px py vx vy 0 h)) (by rw [Int.tmod_eq_emod_of_nonneg hp.1]; exact t) rfl (Lib.hid (rin (by decide) (by decide) (decide_eq_false c1))) (Lib.hid (chk_of _ (by unfold chk; repeat (first | rw [if_pos (by omega)] | rw [if_neg (by omega)])))) w
    · by_cases c1 : -16777216 ≤ n ∧ n ≤ 16777216
      · exact checks7_ok k r ax ay m o px py vx vy pt n _ (Lib.hid body_awake) (Lib.hid (rck k r ax ay m o px py vx vy 0 h)) (by rw [Int.tmod_eq_emod_of_nonneg hp.1]; exact t) rfl (Lib.hid (rin (by decide) (by decide) (decide_eq_true c1))) (Lib.hid (chk_of _ (by unfold chk; repeat (first | rw [if_pos (by omega)] | rw [if_neg (by omega)])))) w
      · exact checks7_no k r ax ay m o px py vx vy pt n _ (Lib.hid body_awake) (Lib.hid (rck k r ax ay m o px py vx vy 0 h)) (by rw [Int.tmod_eq_emod_of_nonneg hp.1]; exact t) rfl (Lib.hid (rin (by decide) (by decide) (decide_eq_false c1))) (Lib.hid (chk_of _ (by unfold chk; repeat (first | rw [if_pos (by omega)] | rw [if_neg (by omega)])))) w
    · by_cases c1 : -16777216 ≤ n ∧ n ≤ 16777216
      · exact checks8_ok k r ax ay m o px py vx vy pt n _ (Lib.hid body_awake) (Lib.hid (rck k r ax ay m o px py vx vy 0 h)) (by rw [Int.tmod_eq_emod_of_nonneg hp.1]; exact t) rfl (Lib.hid (rin (by decide) (by decide) (decide_eq_true c1))) (Lib.hid (chk_of _ (by unfold chk; repeat (first | rw [if_pos (by omega)] | rw [if_neg (by omega)])))) w
      · exact checks8_no k r ax ay m o px py vx vy pt n _ (Lib.hid body_awake) (Lib.hid (rck k r ax ay m o px py vx vy 0 h)) (by rw [Int.tmod_eq_emod_of_nonneg hp.1]; exact t) rfl (Lib.hid (rin (by decide) (by decide) (decide_eq_false c1))) (Lib.hid (chk_of _ (by unfold chk; repeat (first | rw [if_pos (by omega)] | rw [if_neg (by omega)])))) w
  · exact checks_bad k r ax ay m o px py vx vy pt n _ (Lib.hid body_awake) (Lib.hid (rck k r ax ay m o px py vx vy _ rfl)) (by rw [bne_iff_ne]; exact h) w
end Go.Proofs.Ytjbhgjaklmpkjaa
