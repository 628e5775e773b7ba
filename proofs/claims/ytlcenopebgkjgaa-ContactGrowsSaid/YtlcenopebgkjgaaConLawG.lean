/-
  Package contact: the law ContactGrows.
-/
import Derived.Test.YtlcenopebgkjgaaConCon
import Derived.Deep.DeepCutAuto
import Derived.Deep.QuietTactic
import Derived.BigQuiet
namespace Go.Proofs.Ytlcenopebgkjgaa
open Go.RowKit Go.Lib

theorem cc_r (x y : Bd) (r : Int) : cc { x with r := r } y = cc x y ∧ cc y { x with r := r } = cc y x := ⟨rfl, rfl⟩
/-- What a greater radius does. -/
theorem grow_r {x y : Bd} {r : Int} (hx : okC x) (hx2 : okC { x with r := r }) (hy : okC y) (hr : x.r ≤ r) :
    (gapC (lowB { x with r := r } y) (higB { x with r := r } y) = gapC (lowB x y) (higB x y) - (r - x.r)) ∧ (tchB (lowB x y) (higB x y) = true → tchB (lowB { x with r := r } y) (higB { x with r := r } y) = true ∧
      (conV (lowB { x with r := r } y) (higB { x with r := r } y)).nx = (conV (lowB x y) (higB x y)).nx ∧ (conV (lowB { x with r := r } y) (higB { x with r := r } y)).ny = (conV (lowB x y) (higB x y)).ny ∧ (conV (lowB { x with r := r } y) (higB { x with r := r } y)).dp = (conV (lowB x y) (higB x y)).dp + (r - x.r)) := by
  unfold lowB higB
  by_cases c : y.k < x.k
  · have e : (if y.k < ({ x with r := r } : Bd).k then y else ({ x with r := r } : Bd)) = y := if_pos c
    have e' : (if y.k < ({ x with r := r } : Bd).k then ({ x with r := r } : Bd) else y) = { x with r := r } := if_pos c
    rw [e, e', if_pos c, if_pos c]
    refine ⟨?_, fun h => ?_⟩
    · show cln y x - (y.r + r) = cln y x - (y.r + x.r) - (r - x.r)
      omega
    · have h1 := (tch_iff hy hx).1 h
      have h2 : tchB y { x with r := r } = true := (tch_iff hy hx2).2 (by
        show cln y x < y.r + r
        unfold csm at h1
        omega)
      refine ⟨h2, ?_⟩
      unfold conV
      rw [if_pos h, if_pos h2]
      refine ⟨rfl, rfl, ?_⟩
      show y.r + r - cln y x = y.r + x.r - cln y x + (r - x.r)
      omega
  · have e : (if y.k < ({ x with r := r } : Bd).k then y else ({ x with r := r } : Bd)) = { x with r := r } := if_neg c
    have e' : (if y.k < ({ x with r := r } : Bd).k then ({ x with r := r } : Bd) else y) = y := if_neg c
    rw [e, e', if_neg c, if_neg c]
    refine ⟨?_, fun h => ?_⟩
    · show cln x y - (r + y.r) = cln x y - (x.r + y.r) - (r - x.r)
      omega
    · have h1 := (tch_iff hx hy).1 h
      have h2 : tchB { x with r := r } y = true := (tch_iff hx2 hy).2 (by
        show cln x y < r + y.r
        unfold csm at h1
        omega)
      refine ⟨h2, ?_⟩
      unfold conV
      rw [if_pos h, if_pos h2]
      refine ⟨rfl, rfl, ?_⟩
      show r + y.r - cln x y = x.r + y.r - cln x y + (r - x.r)
      omega
set_option maxRecDepth 100000 in
set_option maxHeartbeats 2000000 in
theorem kgl_b1 (AW : Hid QAwake) (x y : Bd) (r : Int) (RR : Hid (KRr x y false)) (w : World) : Calls Try.prog 7 #[.agg #[.int .u32 x.k, .int .i32 x.r, .int .i32 x.ax, .int .i32 x.ay, .int .i32 x.m, .int .i32 x.o, .int .i32 x.px, .int .i32 x.py, .int .i32 x.vx, .int .i32 x.vy], .agg #[.int .u32 y.k, .int .i32 y.r, .int .i32 y.ax, .int .i32 y.ay, .int .i32 y.m, .int .i32 y.o, .int .i32 y.px, .int .i32 y.py, .int .i32 y.vx, .int .i32 y.vy], .int .i32 r] w fun e w' => e = .returned (.bool true) ∧ Kep w.heap.size w w' := by
  go_enter Try.func7, Try.ntmps7
  go_wp2_with (first
    | ((with_reducible refine (AW.out _).mono ?_); rintro e w1 ⟨rfl, g1⟩
       first
         | (replace gg := kep_next gg g1)
         | (have x0 := Kep.all g1 (a := ⟨w.heap.size, 0, none⟩) (v := .int .u32 x.k) (by (repeat (first | rw [World.cell?_drew] | rw [World.cell?_alloc_past _ _ _ (by first | (simp; done) | (simp; omega))])); rw [World.cell?_alloc_at _ _ _ _ (by simp)]; rfl)
            have x1 := Kep.all g1 (a := ⟨w.heap.size, 1, none⟩) (v := .int .i32 x.r) (by (repeat (first | rw [World.cell?_drew] | rw [World.cell?_alloc_past _ _ _ (by first | (simp; done) | (simp; omega))])); rw [World.cell?_alloc_at _ _ _ _ (by simp)]; rfl)
            have x2 := Kep.all g1 (a := ⟨w.heap.size, 2, none⟩) (v := .int .i32 x.ax) (by (repeat (first | rw [World.cell?_drew] | rw [World.cell?_alloc_past _ _ _ (by first | (simp; done) | (simp; omega))])); rw [World.cell?_alloc_at _ _ _ _ (by simp)]; rfl)
            have x3 := Kep.all g1 (a := ⟨w.heap.size, 3, none⟩) (v := .int .i32 x.ay) (by (repeat (first | rw [World.cell?_drew] | rw [World.cell?_alloc_past _ _ _ (by first | (simp; done) | (simp; omega))])); rw [World.cell?_alloc_at _ _ _ _ (by simp)]; rfl)
            have x4 := Kep.all g1 (a := ⟨w.heap.size, 4, none⟩) (v := .int .i32 x.m) (by (repeat (first | rw [World.cell?_drew] | rw [World.cell?_alloc_past _ _ _ (by first | (simp; done) | (simp; omega))])); rw [World.cell?_alloc_at _ _ _ _ (by simp)]; rfl)
            have x5 := Kep.all g1 (a := ⟨w.heap.size, 5, none⟩) (v := .int .i32 x.o) (by (repeat (first | rw [World.cell?_drew] | rw [World.cell?_alloc_past _ _ _ (by first | (simp; done) | (simp; omega))])); rw [World.cell?_alloc_at _ _ _ _ (by simp)]; rfl)
            have x6 := Kep.all g1 (a := ⟨w.heap.size, 6, none⟩) (v := .int .i32 x.px) (by (repeat (first | rw [World.cell?_drew] | rw [World.cell?_alloc_past _ _ _ (by first | (simp; done) | (simp; omega))])); rw [World.cell?_alloc_at _ _ _ _ (by simp)]; rfl)
            have x7 := Kep.all g1 (a := ⟨w.heap.size, 7, none⟩) (v := .int .i32 x.py) (by (repeat (first | rw [World.cell?_drew] | rw [World.cell?_alloc_past _ _ _ (by first | (simp; done) | (simp; omega))])); rw [World.cell?_alloc_at _ _ _ _ (by simp)]; rfl)
            have x8 := Kep.all g1 (a := ⟨w.heap.size, 8, none⟩) (v := .int .i32 x.vx) (by (repeat (first | rw [World.cell?_drew] | rw [World.cell?_alloc_past _ _ _ (by first | (simp; done) | (simp; omega))])); rw [World.cell?_alloc_at _ _ _ _ (by simp)]; rfl)
            have x9 := Kep.all g1 (a := ⟨w.heap.size, 9, none⟩) (v := .int .i32 x.vy) (by (repeat (first | rw [World.cell?_drew] | rw [World.cell?_alloc_past _ _ _ (by first | (simp; done) | (simp; omega))])); rw [World.cell?_alloc_at _ _ _ _ (by simp)]; rfl)
            have y0 := Kep.all g1 (a := ⟨w.heap.size + 1, 0, none⟩) (v := .int .u32 y.k) (by (repeat (first | rw [World.cell?_drew] | rw [World.cell?_alloc_past _ _ _ (by first | (simp; done) | (simp; omega))])); rw [World.cell?_alloc_at _ _ _ _ (by simp)]; rfl)
            have y1 := Kep.all g1 (a := ⟨w.heap.size + 1, 1, none⟩) (v := .int .i32 y.r) (by (repeat (first | rw [World.cell?_drew] | rw [World.cell?_alloc_past _ _ _ (by first | (simp; done) | (simp; omega))])); rw [World.cell?_alloc_at _ _ _ _ (by simp)]; rfl)
            have y2 := Kep.all g1 (a := ⟨w.heap.size + 1, 2, none⟩) (v := .int .i32 y.ax) (by (repeat (first | rw [World.cell?_drew] | rw [World.cell?_alloc_past _ _ _ (by first | (simp; done) | (simp; omega))])); rw [World.cell?_alloc_at _ _ _ _ (by simp)]; rfl)
            have y3 := Kep.all g1 (a := ⟨w.heap.size + 1, 3, none⟩) (v := .int .i32 y.ay) (by (repeat (first | rw [World.cell?_drew] | rw [World.cell?_alloc_past _ _ _ (by first | (simp; done) | (simp; omega))])); rw [World.cell?_alloc_at _ _ _ _ (by simp)]; rfl)
            have y4 := Kep.all g1 (a := ⟨w.heap.size + 1, 4, none⟩) (v := .int .i32 y.m) (by (repeat (first | rw [World.cell?_drew] | rw [World.cell?_alloc_past _ _ _ (by first | (simp; done) | (simp; omega))])); rw [World.cell?_alloc_at _ _ _ _ (by simp)]; rfl)
            have y5 := Kep.all g1 (a := ⟨w.heap.size + 1, 5, none⟩) (v := .int .i32 y.o) (by (repeat (first | rw [World.cell?_drew] | rw [World.cell?_alloc_past _ _ _ (by first | (simp; done) | (simp; omega))])); rw [World.cell?_alloc_at _ _ _ _ (by simp)]; rfl)
            have y6 := Kep.all g1 (a := ⟨w.heap.size + 1, 6, none⟩) (v := .int .i32 y.px) (by (repeat (first | rw [World.cell?_drew] | rw [World.cell?_alloc_past _ _ _ (by first | (simp; done) | (simp; omega))])); rw [World.cell?_alloc_at _ _ _ _ (by simp)]; rfl)
            have y7 := Kep.all g1 (a := ⟨w.heap.size + 1, 7, none⟩) (v := .int .i32 y.py) (by (repeat (first | rw [World.cell?_drew] | rw [World.cell?_alloc_past _ _ _ (by first | (simp; done) | (simp; omega))])); rw [World.cell?_alloc_at _ _ _ _ (by simp)]; rfl)
            have y8 := Kep.all g1 (a := ⟨w.heap.size + 1, 8, none⟩) (v := .int .i32 y.vx) (by (repeat (first | rw [World.cell?_drew] | rw [World.cell?_alloc_past _ _ _ (by first | (simp; done) | (simp; omega))])); rw [World.cell?_alloc_at _ _ _ _ (by simp)]; rfl)
            have y9 := Kep.all g1 (a := ⟨w.heap.size + 1, 9, none⟩) (v := .int .i32 y.vy) (by (repeat (first | rw [World.cell?_drew] | rw [World.cell?_alloc_past _ _ _ (by first | (simp; done) | (simp; omega))])); rw [World.cell?_alloc_at _ _ _ _ (by simp)]; rfl)
            have c0 := Kep.all g1 (a := ⟨w.heap.size + 1 + 1, 0, none⟩) (v := .int .u32 x.k) (by (repeat (first | rw [World.cell?_drew] | rw [World.cell?_alloc_past _ _ _ (by first | (simp; done) | (simp; omega))])); rw [World.cell?_alloc_at _ _ _ _ (by simp)]; rfl)
            have c1 := Kep.all g1 (a := ⟨w.heap.size + 1 + 1, 1, none⟩) (v := .int .i32 r) (by (repeat (first | rw [World.cell?_drew] | rw [World.cell?_alloc_past _ _ _ (by first | (simp; done) | (simp; omega))])); rw [World.cell?_alloc_at _ _ _ _ (by simp)]; rfl)
            have c2 := Kep.all g1 (a := ⟨w.heap.size + 1 + 1, 2, none⟩) (v := .int .i32 x.ax) (by (repeat (first | rw [World.cell?_drew] | rw [World.cell?_alloc_past _ _ _ (by first | (simp; done) | (simp; omega))])); rw [World.cell?_alloc_at _ _ _ _ (by simp)]; rfl)
            have c3 := Kep.all g1 (a := ⟨w.heap.size + 1 + 1, 3, none⟩) (v := .int .i32 x.ay) (by (repeat (first | rw [World.cell?_drew] | rw [World.cell?_alloc_past _ _ _ (by first | (simp; done) | (simp; omega))])); rw [World.cell?_alloc_at _ _ _ _ (by simp)]; rfl)
            have c4 := Kep.all g1 (a := ⟨w.heap.size + 1 + 1, 4, none⟩) (v := .int .i32 x.m) (by (repeat (first | rw [World.cell?_drew] | rw [World.cell?_alloc_past _ _ _ (by first | (simp; done) | (simp; omega))])); rw [World.cell?_alloc_at _ _ _ _ (by simp)]; rfl)
            have c5 := Kep.all g1 (a := ⟨w.heap.size + 1 + 1, 5, none⟩) (v := .int .i32 x.o) (by (repeat (first | rw [World.cell?_drew] | rw [World.cell?_alloc_past _ _ _ (by first | (simp; done) | (simp; omega))])); rw [World.cell?_alloc_at _ _ _ _ (by simp)]; rfl)
            have c6 := Kep.all g1 (a := ⟨w.heap.size + 1 + 1, 6, none⟩) (v := .int .i32 x.px) (by (repeat (first | rw [World.cell?_drew] | rw [World.cell?_alloc_past _ _ _ (by first | (simp; done) | (simp; omega))])); rw [World.cell?_alloc_at _ _ _ _ (by simp)]; rfl)
            have c7 := Kep.all g1 (a := ⟨w.heap.size + 1 + 1, 7, none⟩) (v := .int .i32 x.py) (by (repeat (first | rw [World.cell?_drew] | rw [World.cell?_alloc_past _ _ _ (by first | (simp; done) | (simp; omega))])); rw [World.cell?_alloc_at _ _ _ _ (by simp)]; rfl)
            have c8 := Kep.all g1 (a := ⟨w.heap.size + 1 + 1, 8, none⟩) (v := .int .i32 x.vx) (by (repeat (first | rw [World.cell?_drew] | rw [World.cell?_alloc_past _ _ _ (by first | (simp; done) | (simp; omega))])); rw [World.cell?_alloc_at _ _ _ _ (by simp)]; rfl)
            have c9 := Kep.all g1 (a := ⟨w.heap.size + 1 + 1, 9, none⟩) (v := .int .i32 x.vy) (by (repeat (first | rw [World.cell?_drew] | rw [World.cell?_alloc_past _ _ _ (by first | (simp; done) | (simp; omega))])); rw [World.cell?_alloc_at _ _ _ _ (by simp)]; rfl)
            have gg := kep_next (kep_more (kep_more (kep_more (Kep.refl _ _) _) _) _) g1
            have zx_w1 : w.heap.size < w1.heap.size := World.block_lt_of_cell? _ _ x0
            have zy_w1 : w.heap.size + 1 < w1.heap.size := World.block_lt_of_cell? _ _ y0
            have zc_w1 : w.heap.size + 1 + 1 < w1.heap.size := World.block_lt_of_cell? _ _ c0))
    | ((with_reducible refine (RR.out _).mono ?_); rintro e w2 ⟨rfl, g2⟩
       replace x0 := Kep.all g2 (a := ⟨w.heap.size, 0, none⟩) (v := .int .u32 x.k) x0
       replace x1 := Kep.all g2 (a := ⟨w.heap.size, 1, none⟩) (v := .int .i32 x.r) x1
       replace x2 := Kep.all g2 (a := ⟨w.heap.size, 2, none⟩) (v := .int .i32 x.ax) x2
       replace x3 := Kep.all g2 (a := ⟨w.heap.size, 3, none⟩) (v := .int .i32 x.ay) x3
       replace x4 := Kep.all g2 (a := ⟨w.heap.size, 4, none⟩) (v := .int .i32 x.m) x4
       replace x5 := Kep.all g2 (a := ⟨w.heap.size, 5, none⟩) (v := .int .i32 x.o) x5
       replace x6 := Kep.all g2 (a := ⟨w.heap.size, 6, none⟩) (v := .int .i32 x.px) x6
       replace x7 := Kep.all g2 (a := ⟨w.heap.size, 7, none⟩) (v := .int .i32 x.py) x7
       replace x8 := Kep.all g2 (a := ⟨w.heap.size, 8, none⟩) (v := .int .i32 x.vx) x8
       replace x9 := Kep.all g2 (a := ⟨w.heap.size, 9, none⟩) (v := .int .i32 x.vy) x9
       replace y0 := Kep.all g2 (a := ⟨w.heap.size + 1, 0, none⟩) (v := .int .u32 y.k) y0
       replace y1 := Kep.all g2 (a := ⟨w.heap.size + 1, 1, none⟩) (v := .int .i32 y.r) y1
       replace y2 := Kep.all g2 (a := ⟨w.heap.size + 1, 2, none⟩) (v := .int .i32 y.ax) y2
       replace y3 := Kep.all g2 (a := ⟨w.heap.size + 1, 3, none⟩) (v := .int .i32 y.ay) y3
       replace y4 := Kep.all g2 (a := ⟨w.heap.size + 1, 4, none⟩) (v := .int .i32 y.m) y4
       replace y5 := Kep.all g2 (a := ⟨w.heap.size + 1, 5, none⟩) (v := .int .i32 y.o) y5
       replace y6 := Kep.all g2 (a := ⟨w.heap.size + 1, 6, none⟩) (v := .int .i32 y.px) y6
       replace y7 := Kep.all g2 (a := ⟨w.heap.size + 1, 7, none⟩) (v := .int .i32 y.py) y7
       replace y8 := Kep.all g2 (a := ⟨w.heap.size + 1, 8, none⟩) (v := .int .i32 y.vx) y8
       replace y9 := Kep.all g2 (a := ⟨w.heap.size + 1, 9, none⟩) (v := .int .i32 y.vy) y9
       replace c0 := Kep.all g2 (a := ⟨w.heap.size + 1 + 1, 0, none⟩) (v := .int .u32 x.k) c0
       replace c1 := Kep.all g2 (a := ⟨w.heap.size + 1 + 1, 1, none⟩) (v := .int .i32 r) c1
       replace c2 := Kep.all g2 (a := ⟨w.heap.size + 1 + 1, 2, none⟩) (v := .int .i32 x.ax) c2
       replace c3 := Kep.all g2 (a := ⟨w.heap.size + 1 + 1, 3, none⟩) (v := .int .i32 x.ay) c3
       replace c4 := Kep.all g2 (a := ⟨w.heap.size + 1 + 1, 4, none⟩) (v := .int .i32 x.m) c4
       replace c5 := Kep.all g2 (a := ⟨w.heap.size + 1 + 1, 5, none⟩) (v := .int .i32 x.o) c5
       replace c6 := Kep.all g2 (a := ⟨w.heap.size + 1 + 1, 6, none⟩) (v := .int .i32 x.px) c6
       replace c7 := Kep.all g2 (a := ⟨w.heap.size + 1 + 1, 7, none⟩) (v := .int .i32 x.py) c7
       replace c8 := Kep.all g2 (a := ⟨w.heap.size + 1 + 1, 8, none⟩) (v := .int .i32 x.vx) c8
       replace c9 := Kep.all g2 (a := ⟨w.heap.size + 1 + 1, 9, none⟩) (v := .int .i32 x.vy) c9
       replace gg := kep_next gg g2
       have zx_w2 : w.heap.size < w2.heap.size := World.block_lt_of_cell? _ _ x0
       have zy_w2 : w.heap.size + 1 < w2.heap.size := World.block_lt_of_cell? _ _ y0
       have zc_w2 : w.heap.size + 1 + 1 < w2.heap.size := World.block_lt_of_cell? _ _ c0))
  go_ret
  exact ⟨rfl, gg⟩
set_option maxRecDepth 100000 in
set_option maxHeartbeats 2000000 in
theorem kgl_b2 (AW : Hid QAwake) (x y : Bd) (r : Int) (RR : Hid (KRr x y true)) (R2 : Hid (∀ w, Calls Try.prog 9 #[.agg #[.int .u32 x.k, .int .i32 r, .int .i32 x.ax, .int .i32 x.ay, .int .i32 x.m, .int .i32 x.o, .int .i32 x.px, .int .i32 x.py, .int .i32 x.vx, .int .i32 x.vy], .agg #[.int .u32 y.k, .int .i32 y.r, .int .i32 y.ax, .int .i32 y.ay, .int .i32 y.m, .int .i32 y.o, .int .i32 y.px, .int .i32 y.py, .int .i32 y.vx, .int .i32 y.vy]] w fun e w' => e = .returned (.bool false) ∧ Kep w.heap.size w w')) (w : World) : Calls Try.prog 7 #[.agg #[.int .u32 x.k, .int .i32 x.r, .int .i32 x.ax, .int .i32 x.ay, .int .i32 x.m, .int .i32 x.o, .int .i32 x.px, .int .i32 x.py, .int .i32 x.vx, .int .i32 x.vy], .agg #[.int .u32 y.k, .int .i32 y.r, .int .i32 y.ax, .int .i32 y.ay, .int .i32 y.m, .int .i32 y.o, .int .i32 y.px, .int .i32 y.py, .int .i32 y.vx, .int .i32 y.vy], .int .i32 r] w fun e w' => e = .returned (.bool true) ∧ Kep w.heap.size w w' := by
  go_enter Try.func7, Try.ntmps7
  go_wp2_with (first
    | ((with_reducible refine (AW.out _).mono ?_); rintro e w1 ⟨rfl, g1⟩
       first
         | (replace gg := kep_next gg g1)
         | (have x0 := Kep.all g1 (a := ⟨w.heap.size, 0, none⟩) (v := .int .u32 x.k) (by (repeat (first | rw [World.cell?_drew] | rw [World.cell?_alloc_past _ _ _ (by first | (simp; done) | (simp; omega))])); rw [World.cell?_alloc_at _ _ _ _ (by simp)]; rfl)
            have x1 := Kep.all g1 (a := ⟨w.heap.size, 1, none⟩) (v := .int .i32 x.r) (by (repeat (first | rw [World.cell?_drew] | rw [World.cell?_alloc_past _ _ _ (by first | (simp; done) | (simp; omega))])); rw [World.cell?_alloc_at _ _ _ _ (by simp)]; rfl)
            have x2 := Kep.all g1 (a := ⟨w.heap.size, 2, none⟩) (v := .int .i32 x.ax) (by (repeat (first | rw [World.cell?_drew] | rw [World.cell?_alloc_past _ _ _ (by first | (simp; done) | (simp; omega))])); rw [World.cell?_alloc_at _ _ _ _ (by simp)]; rfl)
            have x3 := Kep.all g1 (a := ⟨w.heap.size, 3, none⟩) (v := .int .i32 x.ay) (by (repeat (first | rw [World.cell?_drew] | rw [World.cell?_alloc_past _ _ _ (by first | (simp; done) | (simp; omega))])); rw [World.cell?_alloc_at _ _ _ _ (by simp)]; rfl)
            have x4 := Kep.all g1 (a := ⟨w.heap.size, 4, none⟩) (v := .int .i32 x.m) (by (repeat (first | rw [World.cell?_drew] | rw [World.cell?_alloc_past _ _ _ (by first | (simp; done) | (simp; omega))])); rw [World.cell?_alloc_at _ _ _ _ (by simp)]; rfl)
            have x5 := Kep.all g1 (a := ⟨w.heap.size, 5, none⟩) (v := .int .i32 x.o) (by (repeat (first | rw [World.cell?_drew] | rw [World.cell?_alloc_past _ _ _ (by first | (simp; done) | (simp; omega))])); rw [World.cell?_alloc_at _ _ _ _ (by simp)]; rfl)
            have x6 := Kep.all g1 (a := ⟨w.heap.size, 6, none⟩) (v := .int .i32 x.px) (by (repeat (first | rw [World.cell?_drew] | rw [World.cell?_alloc_past _ _ _ (by first | (simp; done) | (simp; omega))])); rw [World.cell?_alloc_at _ _ _ _ (by simp)]; rfl)
            have x7 := Kep.all g1 (a := ⟨w.heap.size, 7, none⟩) (v := .int .i32 x.py) (by (repeat (first | rw [World.cell?_drew] | rw [World.cell?_alloc_past _ _ _ (by first | (simp; done) | (simp; omega))])); rw [World.cell?_alloc_at _ _ _ _ (by simp)]; rfl)
            have x8 := Kep.all g1 (a := ⟨w.heap.size, 8, none⟩) (v := .int .i32 x.vx) (by (repeat (first | rw [World.cell?_drew] | rw [World.cell?_alloc_past _ _ _ (by first | (simp; done) | (simp; omega))])); rw [World.cell?_alloc_at _ _ _ _ (by simp)]; rfl)
            have x9 := Kep.all g1 (a := ⟨w.heap.size, 9, none⟩) (v := .int .i32 x.vy) (by (repeat (first | rw [World.cell?_drew] | rw [World.cell?_alloc_past _ _ _ (by first | (simp; done) | (simp; omega))])); rw [World.cell?_alloc_at _ _ _ _ (by simp)]; rfl)
            have y0 := Kep.all g1 (a := ⟨w.heap.size + 1, 0, none⟩) (v := .int .u32 y.k) (by (repeat (first | rw [World.cell?_drew] | rw [World.cell?_alloc_past _ _ _ (by first | (simp; done) | (simp; omega))])); rw [World.cell?_alloc_at _ _ _ _ (by simp)]; rfl)
            have y1 := Kep.all g1 (a := ⟨w.heap.size + 1, 1, none⟩) (v := .int .i32 y.r) (by (repeat (first | rw [World.cell?_drew] | rw [World.cell?_alloc_past _ _ _ (by first | (simp; done) | (simp; omega))])); rw [World.cell?_alloc_at _ _ _ _ (by simp)]; rfl)
            have y2 := Kep.all g1 (a := ⟨w.heap.size + 1, 2, none⟩) (v := .int .i32 y.ax) (by (repeat (first | rw [World.cell?_drew] | rw [World.cell?_alloc_past _ _ _ (by first | (simp; done) | (simp; omega))])); rw [World.cell?_alloc_at _ _ _ _ (by simp)]; rfl)
            have y3 := Kep.all g1 (a := ⟨w.heap.size + 1, 3, none⟩) (v := .int .i32 y.ay) (by (repeat (first | rw [World.cell?_drew] | rw [World.cell?_alloc_past _ _ _ (by first | (simp; done) | (simp; omega))])); rw [World.cell?_alloc_at _ _ _ _ (by simp)]; rfl)
            have y4 := Kep.all g1 (a := ⟨w.heap.size + 1, 4, none⟩) (v := .int .i32 y.m) (by (repeat (first | rw [World.cell?_drew] | rw [World.cell?_alloc_past _ _ _ (by first | (simp; done) | (simp; omega))])); rw [World.cell?_alloc_at _ _ _ _ (by simp)]; rfl)
            have y5 := Kep.all g1 (a := ⟨w.heap.size + 1, 5, none⟩) (v := .int .i32 y.o) (by (repeat (first | rw [World.cell?_drew] | rw [World.cell?_alloc_past _ _ _ (by first | (simp; done) | (simp; omega))])); rw [World.cell?_alloc_at _ _ _ _ (by simp)]; rfl)
            have y6 := Kep.all g1 (a := ⟨w.heap.size + 1, 6, none⟩) (v := .int .i32 y.px) (by (repeat (first | rw [World.cell?_drew] | rw [World.cell?_alloc_past _ _ _ (by first | (simp; done) | (simp; omega))])); rw [World.cell?_alloc_at _ _ _ _ (by simp)]; rfl)
            have y7 := Kep.all g1 (a := ⟨w.heap.size + 1, 7, none⟩) (v := .int .i32 y.py) (by (repeat (first | rw [World.cell?_drew] | rw [World.cell?_alloc_past _ _ _ (by first | (simp; done) | (simp; omega))])); rw [World.cell?_alloc_at _ _ _ _ (by simp)]; rfl)
            have y8 := Kep.all g1 (a := ⟨w.heap.size + 1, 8, none⟩) (v := .int .i32 y.vx) (by (repeat (first | rw [World.cell?_drew] | rw [World.cell?_alloc_past _ _ _ (by first | (simp; done) | (simp; omega))])); rw [World.cell?_alloc_at _ _ _ _ (by simp)]; rfl)
            have y9 := Kep.all g1 (a := ⟨w.heap.size + 1, 9, none⟩) (v := .int .i32 y.vy) (by (repeat (first | rw [World.cell?_drew] | rw [World.cell?_alloc_past _ _ _ (by first | (simp; done) | (simp; omega))])); rw [World.cell?_alloc_at _ _ _ _ (by simp)]; rfl)
            have c0 := Kep.all g1 (a := ⟨w.heap.size + 1 + 1, 0, none⟩) (v := .int .u32 x.k) (by (repeat (first | rw [World.cell?_drew] | rw [World.cell?_alloc_past _ _ _ (by first | (simp; done) | (simp; omega))])); rw [World.cell?_alloc_at _ _ _ _ (by simp)]; rfl)
            have c1 := Kep.all g1 (a := ⟨w.heap.size + 1 + 1, 1, none⟩) (v := .int .i32 r) (by (repeat (first | rw [World.cell?_drew] | rw [World.cell?_alloc_past _ _ _ (by first | (simp; done) | (simp; omega))])); rw [World.cell?_alloc_at _ _ _ _ (by simp)]; rfl)
            have c2 := Kep.all g1 (a := ⟨w.heap.size + 1 + 1, 2, none⟩) (v := .int .i32 x.ax) (by (repeat (first | rw [World.cell?_drew] | rw [World.cell?_alloc_past _ _ _ (by first | (simp; done) | (simp; omega))])); rw [World.cell?_alloc_at _ _ _ _ (by simp)]; rfl)
            have c3 := Kep.all g1 (a := ⟨w.heap.size + 1 + 1, 3, none⟩) (v := .int .i32 x.ay) (by (repeat (first | rw [World.cell?_drew] | rw [World.cell?_alloc_past _ _ _ (by first | (simp; done) | (simp; omega))])); rw [World.cell?_alloc_at _ _ _ _ (by simp)]; rfl)
            have c4 := Kep.all g1 (a := ⟨w.heap.size + 1 + 1, 4, none⟩) (v := .int .i32 x.m) (by (repeat (first | rw [World.cell?_drew] | rw [World.cell?_alloc_past _ _ _ (by first | (simp; done) | (simp; omega))])); rw [World.cell?_alloc_at _ _ _ _ (by simp)]; rfl)
            have c5 := Kep.all g1 (a := ⟨w.heap.size + 1 + 1, 5, none⟩) (v := .int .i32 x.o) (by (repeat (first | rw [World.cell?_drew] | rw [World.cell?_alloc_past _ _ _ (by first | (simp; done) | (simp; omega))])); rw [World.cell?_alloc_at _ _ _ _ (by simp)]; rfl)
            have c6 := Kep.all g1 (a := ⟨w.heap.size + 1 + 1, 6, none⟩) (v := .int .i32 x.px) (by (repeat (first | rw [World.cell?_drew] | rw [World.cell?_alloc_past _ _ _ (by first | (simp; done) | (simp; omega))])); rw [World.cell?_alloc_at _ _ _ _ (by simp)]; rfl)
            have c7 := Kep.all g1 (a := ⟨w.heap.size + 1 + 1, 7, none⟩) (v := .int .i32 x.py) (by (repeat (first | rw [World.cell?_drew] | rw [World.cell?_alloc_past _ _ _ (by first | (simp; done) | (simp; omega))])); rw [World.cell?_alloc_at _ _ _ _ (by simp)]; rfl)
            have c8 := Kep.all g1 (a := ⟨w.heap.size + 1 + 1, 8, none⟩) (v := .int .i32 x.vx) (by (repeat (first | rw [World.cell?_drew] | rw [World.cell?_alloc_past _ _ _ (by first | (simp; done) | (simp; omega))])); rw [World.cell?_alloc_at _ _ _ _ (by simp)]; rfl)
            have c9 := Kep.all g1 (a := ⟨w.heap.size + 1 + 1, 9, none⟩) (v := .int .i32 x.vy) (by (repeat (first | rw [World.cell?_drew] | rw [World.cell?_alloc_past _ _ _ (by first | (simp; done) | (simp; omega))])); rw [World.cell?_alloc_at _ _ _ _ (by simp)]; rfl)
            have gg := kep_next (kep_more (kep_more (kep_more (Kep.refl _ _) _) _) _) g1
            have zx_w1 : w.heap.size < w1.heap.size := World.block_lt_of_cell? _ _ x0
            have zy_w1 : w.heap.size + 1 < w1.heap.size := World.block_lt_of_cell? _ _ y0
            have zc_w1 : w.heap.size + 1 + 1 < w1.heap.size := World.block_lt_of_cell? _ _ c0))
    | ((with_reducible refine (RR.out _).mono ?_); rintro e w2 ⟨rfl, g2⟩
       replace x0 := Kep.all g2 (a := ⟨w.heap.size, 0, none⟩) (v := .int .u32 x.k) x0
       replace x1 := Kep.all g2 (a := ⟨w.heap.size, 1, none⟩) (v := .int .i32 x.r) x1
       replace x2 := Kep.all g2 (a := ⟨w.heap.size, 2, none⟩) (v := .int .i32 x.ax) x2
       replace x3 := Kep.all g2 (a := ⟨w.heap.size, 3, none⟩) (v := .int .i32 x.ay) x3
       replace x4 := Kep.all g2 (a := ⟨w.heap.size, 4, none⟩) (v := .int .i32 x.m) x4
       replace x5 := Kep.all g2 (a := ⟨w.heap.size, 5, none⟩) (v := .int .i32 x.o) x5
       replace x6 := Kep.all g2 (a := ⟨w.heap.size, 6, none⟩) (v := .int .i32 x.px) x6
       replace x7 := Kep.all g2 (a := ⟨w.heap.size, 7, none⟩) (v := .int .i32 x.py) x7
       replace x8 := Kep.all g2 (a := ⟨w.heap.size, 8, none⟩) (v := .int .i32 x.vx) x8
       replace x9 := Kep.all g2 (a := ⟨w.heap.size, 9, none⟩) (v := .int .i32 x.vy) x9
       replace y0 := Kep.all g2 (a := ⟨w.heap.size + 1, 0, none⟩) (v := .int .u32 y.k) y0
       replace y1 := Kep.all g2 (a := ⟨w.heap.size + 1, 1, none⟩) (v := .int .i32 y.r) y1
       replace y2 := Kep.all g2 (a := ⟨w.heap.size + 1, 2, none⟩) (v := .int .i32 y.ax) y2
       replace y3 := Kep.all g2 (a := ⟨w.heap.size + 1, 3, none⟩) (v := .int .i32 y.ay) y3
       replace y4 := Kep.all g2 (a := ⟨w.heap.size + 1, 4, none⟩) (v := .int .i32 y.m) y4
       replace y5 := Kep.all g2 (a := ⟨w.heap.size + 1, 5, none⟩) (v := .int .i32 y.o) y5
       replace y6 := Kep.all g2 (a := ⟨w.heap.size + 1, 6, none⟩) (v := .int .i32 y.px) y6
       replace y7 := Kep.all g2 (a := ⟨w.heap.size + 1, 7, none⟩) (v := .int .i32 y.py) y7
       replace y8 := Kep.all g2 (a := ⟨w.heap.size + 1, 8, none⟩) (v := .int .i32 y.vx) y8
       replace y9 := Kep.all g2 (a := ⟨w.heap.size + 1, 9, none⟩) (v := .int .i32 y.vy) y9
       replace c0 := Kep.all g2 (a := ⟨w.heap.size + 1 + 1, 0, none⟩) (v := .int .u32 x.k) c0
       replace c1 := Kep.all g2 (a := ⟨w.heap.size + 1 + 1, 1, none⟩) (v := .int .i32 r) c1
       replace c2 := Kep.all g2 (a := ⟨w.heap.size + 1 + 1, 2, none⟩) (v := .int .i32 x.ax) c2
       replace c3 := Kep.all g2 (a := ⟨w.heap.size + 1 + 1, 3, none⟩) (v := .int .i32 x.ay) c3
       replace c4 := Kep.all g2 (a := ⟨w.heap.size + 1 + 1, 4, none⟩) (v := .int .i32 x.m) c4
       replace c5 := Kep.all g2 (a := ⟨w.heap.size + 1 + 1, 5, none⟩) (v := .int .i32 x.o) c5
       replace c6 := Kep.all g2 (a := ⟨w.heap.size + 1 + 1, 6, none⟩) (v := .int .i32 x.px) c6
       replace c7 := Kep.all g2 (a := ⟨w.heap.size + 1 + 1, 7, none⟩) (v := .int .i32 x.py) c7
       replace c8 := Kep.all g2 (a := ⟨w.heap.size + 1 + 1, 8, none⟩) (v := .int .i32 x.vx) c8
       replace c9 := Kep.all g2 (a := ⟨w.heap.size + 1 + 1, 9, none⟩) (v := .int .i32 x.vy) c9
       replace gg := kep_next gg g2
       have zx_w2 : w.heap.size < w2.heap.size := World.block_lt_of_cell? _ _ x0
       have zy_w2 : w.heap.size + 1 < w2.heap.size := World.block_lt_of_cell? _ _ y0
       have zc_w2 : w.heap.size + 1 + 1 < w2.heap.size := World.block_lt_of_cell? _ _ c0)
    | ((with_reducible refine (R2.out _).mono ?_); rintro e w3 ⟨rfl, g3⟩
       replace x0 := Kep.all g3 (a := ⟨w.heap.size, 0, none⟩) (v := .int .u32 x.k) x0
       replace x1 := Kep.all g3 (a := ⟨w.heap.size, 1, none⟩) (v := .int .i32 x.r) x1
       replace x2 := Kep.all g3 (a := ⟨w.heap.size, 2, none⟩) (v := .int .i32 x.ax) x2
       replace x3 := Kep.all g3 (a := ⟨w.heap.size, 3, none⟩) (v := .int .i32 x.ay) x3
       replace x4 := Kep.all g3 (a := ⟨w.heap.size, 4, none⟩) (v := .int .i32 x.m) x4
       replace x5 := Kep.all g3 (a := ⟨w.heap.size, 5, none⟩) (v := .int .i32 x.o) x5
       replace x6 := Kep.all g3 (a := ⟨w.heap.size, 6, none⟩) (v := .int .i32 x.px) x6
       replace x7 := Kep.all g3 (a := ⟨w.heap.size, 7, none⟩) (v := .int .i32 x.py) x7
       replace x8 := Kep.all g3 (a := ⟨w.heap.size, 8, none⟩) (v := .int .i32 x.vx) x8
       replace x9 := Kep.all g3 (a := ⟨w.heap.size, 9, none⟩) (v := .int .i32 x.vy) x9
       replace y0 := Kep.all g3 (a := ⟨w.heap.size + 1, 0, none⟩) (v := .int .u32 y.k) y0
       replace y1 := Kep.all g3 (a := ⟨w.heap.size + 1, 1, none⟩) (v := .int .i32 y.r) y1
       replace y2 := Kep.all g3 (a := ⟨w.heap.size + 1, 2, none⟩) (v := .int .i32 y.ax) y2
       replace y3 := Kep.all g3 (a := ⟨w.heap.size + 1, 3, none⟩) (v := .int .i32 y.ay) y3
       replace y4 := Kep.all g3 (a := ⟨w.heap.size + 1, 4, none⟩) (v := .int .i32 y.m) y4
       replace y5 := Kep.all g3 (a := ⟨w.heap.size + 1, 5, none⟩) (v := .int .i32 y.o) y5
       replace y6 := Kep.all g3 (a := ⟨w.heap.size + 1, 6, none⟩) (v := .int .i32 y.px) y6
       replace y7 := Kep.all g3 (a := ⟨w.heap.size + 1, 7, none⟩) (v := .int .i32 y.py) y7
       replace y8 := Kep.all g3 (a := ⟨w.heap.size + 1, 8, none⟩) (v := .int .i32 y.vx) y8
       replace y9 := Kep.all g3 (a := ⟨w.heap.size + 1, 9, none⟩) (v := .int .i32 y.vy) y9
       replace c0 := Kep.all g3 (a := ⟨w.heap.size + 1 + 1, 0, none⟩) (v := .int .u32 x.k) c0
       replace c1 := Kep.all g3 (a := ⟨w.heap.size + 1 + 1, 1, none⟩) (v := .int .i32 r) c1
       replace c2 := Kep.all g3 (a := ⟨w.heap.size + 1 + 1, 2, none⟩) (v := .int .i32 x.ax) c2
       replace c3 := Kep.all g3 (a := ⟨w.heap.size + 1 + 1, 3, none⟩) (v := .int .i32 x.ay) c3
       replace c4 := Kep.all g3 (a := ⟨w.heap.size + 1 + 1, 4, none⟩) (v := .int .i32 x.m) c4
       replace c5 := Kep.all g3 (a := ⟨w.heap.size + 1 + 1, 5, none⟩) (v := .int .i32 x.o) c5
       replace c6 := Kep.all g3 (a := ⟨w.heap.size + 1 + 1, 6, none⟩) (v := .int .i32 x.px) c6
       replace c7 := Kep.all g3 (a := ⟨w.heap.size + 1 + 1, 7, none⟩) (v := .int .i32 x.py) c7
       replace c8 := Kep.all g3 (a := ⟨w.heap.size + 1 + 1, 8, none⟩) (v := .int .i32 x.vx) c8
       replace c9 := Kep.all g3 (a := ⟨w.heap.size + 1 + 1, 9, none⟩) (v := .int .i32 x.vy) c9
       replace gg := kep_next gg g3
       have zx_w3 : w.heap.size < w3.heap.size := World.block_lt_of_cell? _ _ x0
       have zy_w3 : w.heap.size + 1 < w3.heap.size := World.block_lt_of_cell? _ _ y0
       have zc_w3 : w.heap.size + 1 + 1 < w3.heap.size := World.block_lt_of_cell? _ _ c0))
  go_ret
  exact ⟨rfl, gg⟩
set_option maxRecDepth 100000 in
set_option maxHeartbeats 2000000 in
theorem kgl_b3 (AW : Hid QAwake) (x y : Bd) (r : Int) (RR : Hid (KRr x y true)) (R2 : Hid (∀ w, Calls Try.prog 9 #[.agg #[.int .u32 x.k, .int .i32 r, .int .i32 x.ax, .int .i32 x.ay, .int .i32 x.m, .int .i32 x.o, .int .i32 x.px, .int .i32 x.py, .int .i32 x.vx, .int .i32 x.vy], .agg #[.int .u32 y.k, .int .i32 y.r, .int .i32 y.ax, .int .i32 y.ay, .int .i32 y.m, .int .i32 y.o, .int .i32 y.px, .int .i32 y.py, .int .i32 y.vx, .int .i32 y.vy]] w fun e w' => e = .returned (.bool true) ∧ Kep w.heap.size w w')) (q0 : decide (r < x.r) = true) (w : World) : Calls Try.prog 7 #[.agg #[.int .u32 x.k, .int .i32 x.r, .int .i32 x.ax, .int .i32 x.ay, .int .i32 x.m, .int .i32 x.o, .int .i32 x.px, .int .i32 x.py, .int .i32 x.vx, .int .i32 x.vy], .agg #[.int .u32 y.k, .int .i32 y.r, .int .i32 y.ax, .int .i32 y.ay, .int .i32 y.m, .int .i32 y.o, .int .i32 y.px, .int .i32 y.py, .int .i32 y.vx, .int .i32 y.vy], .int .i32 r] w fun e w' => e = .returned (.bool true) ∧ Kep w.heap.size w w' := by
  go_enter Try.func7, Try.ntmps7
  go_wp2_with (first
    | ((with_reducible refine (AW.out _).mono ?_); rintro e w1 ⟨rfl, g1⟩
       first
         | (replace gg := kep_next gg g1)
         | (have x0 := Kep.all g1 (a := ⟨w.heap.size, 0, none⟩) (v := .int .u32 x.k) (by (repeat (first | rw [World.cell?_drew] | rw [World.cell?_alloc_past _ _ _ (by first | (simp; done) | (simp; omega))])); rw [World.cell?_alloc_at _ _ _ _ (by simp)]; rfl)
            have x1 := Kep.all g1 (a := ⟨w.heap.size, 1, none⟩) (v := .int .i32 x.r) (by (repeat (first | rw [World.cell?_drew] | rw [World.cell?_alloc_past _ _ _ (by first | (simp; done) | (simp; omega))])); rw [World.cell?_alloc_at _ _ _ _ (by simp)]; rfl)
            have x2 := Kep.all g1 (a := ⟨w.heap.size, 2, none⟩) (v := .int .i32 x.ax) (by (repeat (first | rw [World.cell?_drew] | rw [World.cell?_alloc_past _ _ _ (by first | (simp; done) | (simp; omega))])); rw [World.cell?_alloc_at _ _ _ _ (by simp)]; rfl)
            have x3 := Kep.all g1 (a := ⟨w.heap.size, 3, none⟩) (v := .int .i32 x.ay) (by (repeat (first | rw [World.cell?_drew] | rw [World.cell?_alloc_past _ _ _ (by first | (simp; done) | (simp; omega))])); rw [World.cell?_alloc_at _ _ _ _ (by simp)]; rfl)
            have x4 := Kep.all g1 (a := ⟨w.heap.size, 4, none⟩) (v := .int .i32 x.m) (by (repeat (first | rw [World.cell?_drew] | rw [World.cell?_alloc_past _ _ _ (by first | (simp; done) | (simp; omega))])); rw [World.cell?_alloc_at _ _ _ _ (by simp)]; rfl)
            have x5 := Kep.all g1 (a := ⟨w.heap.size, 5, none⟩) (v := .int .i32 x.o) (by (repeat (first | rw [World.cell?_drew] | rw [World.cell?_alloc_past _ _ _ (by first | (simp; done) | (simp; omega))])); rw [World.cell?_alloc_at _ _ _ _ (by simp)]; rfl)
            have x6 := Kep.all g1 (a := ⟨w.heap.size, 6, none⟩) (v := .int .i32 x.px) (by (repeat (first | rw [World.cell?_drew] | rw [World.cell?_alloc_past _ _ _ (by first | (simp; done) | (simp; omega))])); rw [World.cell?_alloc_at _ _ _ _ (by simp)]; rfl)
            have x7 := Kep.all g1 (a := ⟨w.heap.size, 7, none⟩) (v := .int .i32 x.py) (by (repeat (first | rw [World.cell?_drew] | rw [World.cell?_alloc_past _ _ _ (by first | (simp; done) | (simp; omega))])); rw [World.cell?_alloc_at _ _ _ _ (by simp)]; rfl)
            have x8 := Kep.all g1 (a := ⟨w.heap.size, 8, none⟩) (v := .int .i32 x.vx) (by (repeat (first | rw [World.cell?_drew] | rw [World.cell?_alloc_past _ _ _ (by first | (simp; done) | (simp; omega))])); rw [World.cell?_alloc_at _ _ _ _ (by simp)]; rfl)
            have x9 := Kep.all g1 (a := ⟨w.heap.size, 9, none⟩) (v := .int .i32 x.vy) (by (repeat (first | rw [World.cell?_drew] | rw [World.cell?_alloc_past _ _ _ (by first | (simp; done) | (simp; omega))])); rw [World.cell?_alloc_at _ _ _ _ (by simp)]; rfl)
            have y0 := Kep.all g1 (a := ⟨w.heap.size + 1, 0, none⟩) (v := .int .u32 y.k) (by (repeat (first | rw [World.cell?_drew] | rw [World.cell?_alloc_past _ _ _ (by first | (simp; done) | (simp; omega))])); rw [World.cell?_alloc_at _ _ _ _ (by simp)]; rfl)
            have y1 := Kep.all g1 (a := ⟨w.heap.size + 1, 1, none⟩) (v := .int .i32 y.r) (by (repeat (first | rw [World.cell?_drew] | rw [World.cell?_alloc_past _ _ _ (by first | (simp; done) | (simp; omega))])); rw [World.cell?_alloc_at _ _ _ _ (by simp)]; rfl)
            have y2 := Kep.all g1 (a := ⟨w.heap.size + 1, 2, none⟩) (v := .int .i32 y.ax) (by (repeat (first | rw [World.cell?_drew] | rw [World.cell?_alloc_past _ _ _ (by first | (simp; done) | (simp; omega))])); rw [World.cell?_alloc_at _ _ _ _ (by simp)]; rfl)
            have y3 := Kep.all g1 (a := ⟨w.heap.size + 1, 3, none⟩) (v := .int .i32 y.ay) (by (repeat (first | rw [World.cell?_drew] | rw [World.cell?_alloc_past _ _ _ (by first | (simp; done) | (simp; omega))])); rw [World.cell?_alloc_at _ _ _ _ (by simp)]; rfl)
            have y4 := Kep.all g1 (a := ⟨w.heap.size + 1, 4, none⟩) (v := .int .i32 y.m) (by (repeat (first | rw [World.cell?_drew] | rw [World.cell?_alloc_past _ _ _ (by first | (simp; done) | (simp; omega))])); rw [World.cell?_alloc_at _ _ _ _ (by simp)]; rfl)
            have y5 := Kep.all g1 (a := ⟨w.heap.size + 1, 5, none⟩) (v := .int .i32 y.o) (by (repeat (first | rw [World.cell?_drew] | rw [World.cell?_alloc_past _ _ _ (by first | (simp; done) | (simp; omega))])); rw [World.cell?_alloc_at _ _ _ _ (by simp)]; rfl)
            have y6 := Kep.all g1 (a := ⟨w.heap.size + 1, 6, none⟩) (v := .int .i32 y.px) (by (repeat (first | rw [World.cell?_drew] | rw [World.cell?_alloc_past _ _ _ (by first | (simp; done) | (simp; omega))])); rw [World.cell?_alloc_at _ _ _ _ (by simp)]; rfl)
            have y7 := Kep.all g1 (a := ⟨w.heap.size + 1, 7, none⟩) (v := .int .i32 y.py) (by (repeat (first | rw [World.cell?_drew] | rw [World.cell?_alloc_past _ _ _ (by first | (simp; done) | (simp; omega))])); rw [World.cell?_alloc_at _ _ _ _ (by simp)]; rfl)
            have y8 := Kep.all g1 (a := ⟨w.heap.size + 1, 8, none⟩) (v := .int .i32 y.vx) (by (repeat (first | rw [World.cell?_drew] | rw [World.cell?_alloc_past _ _ _ (by first | (simp; done) | (simp; omega))])); rw [World.cell?_alloc_at _ _ _ _ (by simp)]; rfl)
            have y9 := Kep.all g1 (a := ⟨w.heap.size + 1, 9, none⟩) (v := .int .i32 y.vy) (by (repeat (first | rw [World.cell?_drew] | rw [World.cell?_alloc_past _ _ _ (by first | (simp; done) | (simp; omega))])); rw [World.cell?_alloc_at _ _ _ _ (by simp)]; rfl)
            have c0 := Kep.all g1 (a := ⟨w.heap.size + 1 + 1, 0, none⟩) (v := .int .u32 x.k) (by (repeat (first | rw [World.cell?_drew] | rw [World.cell?_alloc_past _ _ _ (by first | (simp; done) | (simp; omega))])); rw [World.cell?_alloc_at _ _ _ _ (by simp)]; rfl)
            have c1 := Kep.all g1 (a := ⟨w.heap.size + 1 + 1, 1, none⟩) (v := .int .i32 r) (by (repeat (first | rw [World.cell?_drew] | rw [World.cell?_alloc_past _ _ _ (by first | (simp; done) | (simp; omega))])); rw [World.cell?_alloc_at _ _ _ _ (by simp)]; rfl)
            have c2 := Kep.all g1 (a := ⟨w.heap.size + 1 + 1, 2, none⟩) (v := .int .i32 x.ax) (by (repeat (first | rw [World.cell?_drew] | rw [World.cell?_alloc_past _ _ _ (by first | (simp; done) | (simp; omega))])); rw [World.cell?_alloc_at _ _ _ _ (by simp)]; rfl)
            have c3 := Kep.all g1 (a := ⟨w.heap.size + 1 + 1, 3, none⟩) (v := .int .i32 x.ay) (by (repeat (first | rw [World.cell?_drew] | rw [World.cell?_alloc_past _ _ _ (by first | (simp; done) | (simp; omega))])); rw [World.cell?_alloc_at _ _ _ _ (by simp)]; rfl)
            have c4 := Kep.all g1 (a := ⟨w.heap.size + 1 + 1, 4, none⟩) (v := .int .i32 x.m) (by (repeat (first | rw [World.cell?_drew] | rw [World.cell?_alloc_past _ _ _ (by first | (simp; done) | (simp; omega))])); rw [World.cell?_alloc_at _ _ _ _ (by simp)]; rfl)
            have c5 := Kep.all g1 (a := ⟨w.heap.size + 1 + 1, 5, none⟩) (v := .int .i32 x.o) (by (repeat (first | rw [World.cell?_drew] | rw [World.cell?_alloc_past _ _ _ (by first | (simp; done) | (simp; omega))])); rw [World.cell?_alloc_at _ _ _ _ (by simp)]; rfl)
            have c6 := Kep.all g1 (a := ⟨w.heap.size + 1 + 1, 6, none⟩) (v := .int .i32 x.px) (by (repeat (first | rw [World.cell?_drew] | rw [World.cell?_alloc_past _ _ _ (by first | (simp; done) | (simp; omega))])); rw [World.cell?_alloc_at _ _ _ _ (by simp)]; rfl)
            have c7 := Kep.all g1 (a := ⟨w.heap.size + 1 + 1, 7, none⟩) (v := .int .i32 x.py) (by (repeat (first | rw [World.cell?_drew] | rw [World.cell?_alloc_past _ _ _ (by first | (simp; done) | (simp; omega))])); rw [World.cell?_alloc_at _ _ _ _ (by simp)]; rfl)
            have c8 := Kep.all g1 (a := ⟨w.heap.size + 1 + 1, 8, none⟩) (v := .int .i32 x.vx) (by (repeat (first | rw [World.cell?_drew] | rw [World.cell?_alloc_past _ _ _ (by first | (simp; done) | (simp; omega))])); rw [World.cell?_alloc_at _ _ _ _ (by simp)]; rfl)
            have c9 := Kep.all g1 (a := ⟨w.heap.size + 1 + 1, 9, none⟩) (v := .int .i32 x.vy) (by (repeat (first | rw [World.cell?_drew] | rw [World.cell?_alloc_past _ _ _ (by first | (simp; done) | (simp; omega))])); rw [World.cell?_alloc_at _ _ _ _ (by simp)]; rfl)
            have gg := kep_next (kep_more (kep_more (kep_more (Kep.refl _ _) _) _) _) g1
            have zx_w1 : w.heap.size < w1.heap.size := World.block_lt_of_cell? _ _ x0
            have zy_w1 : w.heap.size + 1 < w1.heap.size := World.block_lt_of_cell? _ _ y0
            have zc_w1 : w.heap.size + 1 + 1 < w1.heap.size := World.block_lt_of_cell? _ _ c0))
    | ((with_reducible refine (RR.out _).mono ?_); rintro e w2 ⟨rfl, g2⟩
       replace x0 := Kep.all g2 (a := ⟨w.heap.size, 0, none⟩) (v := .int .u32 x.k) x0
       replace x1 := Kep.all g2 (a := ⟨w.heap.size, 1, none⟩) (v := .int .i32 x.r) x1
       replace x2 := Kep.all g2 (a := ⟨w.heap.size, 2, none⟩) (v := .int .i32 x.ax) x2
       replace x3 := Kep.all g2 (a := ⟨w.heap.size, 3, none⟩) (v := .int .i32 x.ay) x3
       replace x4 := Kep.all g2 (a := ⟨w.heap.size, 4, none⟩) (v := .int .i32 x.m) x4
       replace x5 := Kep.all g2 (a := ⟨w.heap.size, 5, none⟩) (v := .int .i32 x.o) x5
       replace x6 := Kep.all g2 (a := ⟨w.heap.size, 6, none⟩) (v := .int .i32 x.px) x6
       replace x7 := Kep.all g2 (a := ⟨w.heap.size, 7, none⟩) (v := .int .i32 x.py) x7
       replace x8 := Kep.all g2 (a := ⟨w.heap.size, 8, none⟩) (v := .int .i32 x.vx) x8
       replace x9 := Kep.all g2 (a := ⟨w.heap.size, 9, none⟩) (v := .int .i32 x.vy) x9
       replace y0 := Kep.all g2 (a := ⟨w.heap.size + 1, 0, none⟩) (v := .int .u32 y.k) y0
       replace y1 := Kep.all g2 (a := ⟨w.heap.size + 1, 1, none⟩) (v := .int .i32 y.r) y1
       replace y2 := Kep.all g2 (a := ⟨w.heap.size + 1, 2, none⟩) (v := .int .i32 y.ax) y2
       replace y3 := Kep.all g2 (a := ⟨w.heap.size + 1, 3, none⟩) (v := .int .i32 y.ay) y3
       replace y4 := Kep.all g2 (a := ⟨w.heap.size + 1, 4, none⟩) (v := .int .i32 y.m) y4
       replace y5 := Kep.all g2 (a := ⟨w.heap.size + 1, 5, none⟩) (v := .int .i32 y.o) y5
       replace y6 := Kep.all g2 (a := ⟨w.heap.size + 1, 6, none⟩) (v := .int .i32 y.px) y6
       replace y7 := Kep.all g2 (a := ⟨w.heap.size + 1, 7, none⟩) (v := .int .i32 y.py) y7
       replace y8 := Kep.all g2 (a := ⟨w.heap.size + 1, 8, none⟩) (v := .int .i32 y.vx) y8
       replace y9 := Kep.all g2 (a := ⟨w.heap.size + 1, 9, none⟩) (v := .int .i32 y.vy) y9
       replace c0 := Kep.all g2 (a := ⟨w.heap.size + 1 + 1, 0, none⟩) (v := .int .u32 x.k) c0
       replace c1 := Kep.all g2 (a := ⟨w.heap.size + 1 + 1, 1, none⟩) (v := .int .i32 r) c1
       replace c2 := Kep.all g2 (a := ⟨w.heap.size + 1 + 1, 2, none⟩) (v := .int .i32 x.ax) c2
       replace c3 := Kep.all g2 (a := ⟨w.heap.size + 1 + 1, 3, none⟩) (v := .int .i32 x.ay) c3
       replace c4 := Kep.all g2 (a := ⟨w.heap.size + 1 + 1, 4, none⟩) (v := .int .i32 x.m) c4
       replace c5 := Kep.all g2 (a := ⟨w.heap.size + 1 + 1, 5, none⟩) (v := .int .i32 x.o) c5
       replace c6 := Kep.all g2 (a := ⟨w.heap.size + 1 + 1, 6, none⟩) (v := .int .i32 x.px) c6
       replace c7 := Kep.all g2 (a := ⟨w.heap.size + 1 + 1, 7, none⟩) (v := .int .i32 x.py) c7
       replace c8 := Kep.all g2 (a := ⟨w.heap.size + 1 + 1, 8, none⟩) (v := .int .i32 x.vx) c8
       replace c9 := Kep.all g2 (a := ⟨w.heap.size + 1 + 1, 9, none⟩) (v := .int .i32 x.vy) c9
       replace gg := kep_next gg g2
       have zx_w2 : w.heap.size < w2.heap.size := World.block_lt_of_cell? _ _ x0
       have zy_w2 : w.heap.size + 1 < w2.heap.size := World.block_lt_of_cell? _ _ y0
       have zc_w2 : w.heap.size + 1 + 1 < w2.heap.size := World.block_lt_of_cell? _ _ c0)
    | ((with_reducible refine (R2.out _).mono ?_); rintro e w3 ⟨rfl, g3⟩
       replace x0 := Kep.all g3 (a := ⟨w.heap.size, 0, none⟩) (v := .int .u32 x.k) x0
       replace x1 := Kep.all g3 (a := ⟨w.heap.size, 1, none⟩) (v := .int .i32 x.r) x1
       replace x2 := Kep.all g3 (a := ⟨w.heap.size, 2, none⟩) (v := .int .i32 x.ax) x2
       replace x3 := Kep.all g3 (a := ⟨w.heap.size, 3, none⟩) (v := .int .i32 x.ay) x3
       replace x4 := Kep.all g3 (a := ⟨w.heap.size, 4, none⟩) (v := .int .i32 x.m) x4
       replace x5 := Kep.all g3 (a := ⟨w.heap.size, 5, none⟩) (v := .int .i32 x.o) x5
       replace x6 := Kep.all g3 (a := ⟨w.heap.size, 6, none⟩) (v := .int .i32 x.px) x6
       replace x7 := Kep.all g3 (a := ⟨w.heap.size, 7, none⟩) (v := .int .i32 x.py) x7
       replace x8 := Kep.all g3 (a := ⟨w.heap.size, 8, none⟩) (v := .int .i32 x.vx) x8
       replace x9 := Kep.all g3 (a := ⟨w.heap.size, 9, none⟩) (v := .int .i32 x.vy) x9
       replace y0 := Kep.all g3 (a := ⟨w.heap.size + 1, 0, none⟩) (v := .int .u32 y.k) y0
       replace y1 := Kep.all g3 (a := ⟨w.heap.size + 1, 1, none⟩) (v := .int .i32 y.r) y1
       replace y2 := Kep.all g3 (a := ⟨w.heap.size + 1, 2, none⟩) (v := .int .i32 y.ax) y2
       replace y3 := Kep.all g3 (a := ⟨w.heap.size + 1, 3, none⟩) (v := .int .i32 y.ay) y3
       replace y4 := Kep.all g3 (a := ⟨w.heap.size + 1, 4, none⟩) (v := .int .i32 y.m) y4
       replace y5 := Kep.all g3 (a := ⟨w.heap.size + 1, 5, none⟩) (v := .int .i32 y.o) y5
       replace y6 := Kep.all g3 (a := ⟨w.heap.size + 1, 6, none⟩) (v := .int .i32 y.px) y6
       replace y7 := Kep.all g3 (a := ⟨w.heap.size + 1, 7, none⟩) (v := .int .i32 y.py) y7
       replace y8 := Kep.all g3 (a := ⟨w.heap.size + 1, 8, none⟩) (v := .int .i32 y.vx) y8
       replace y9 := Kep.all g3 (a := ⟨w.heap.size + 1, 9, none⟩) (v := .int .i32 y.vy) y9
       replace c0 := Kep.all g3 (a := ⟨w.heap.size + 1 + 1, 0, none⟩) (v := .int .u32 x.k) c0
       replace c1 := Kep.all g3 (a := ⟨w.heap.size + 1 + 1, 1, none⟩) (v := .int .i32 r) c1
       replace c2 := Kep.all g3 (a := ⟨w.heap.size + 1 + 1, 2, none⟩) (v := .int .i32 x.ax) c2
       replace c3 := Kep.all g3 (a := ⟨w.heap.size + 1 + 1, 3, none⟩) (v := .int .i32 x.ay) c3
       replace c4 := Kep.all g3 (a := ⟨w.heap.size + 1 + 1, 4, none⟩) (v := .int .i32 x.m) c4
       replace c5 := Kep.all g3 (a := ⟨w.heap.size + 1 + 1, 5, none⟩) (v := .int .i32 x.o) c5
       replace c6 := Kep.all g3 (a := ⟨w.heap.size + 1 + 1, 6, none⟩) (v := .int .i32 x.px) c6
       replace c7 := Kep.all g3 (a := ⟨w.heap.size + 1 + 1, 7, none⟩) (v := .int .i32 x.py) c7
       replace c8 := Kep.all g3 (a := ⟨w.heap.size + 1 + 1, 8, none⟩) (v := .int .i32 x.vx) c8
       replace c9 := Kep.all g3 (a := ⟨w.heap.size + 1 + 1, 9, none⟩) (v := .int .i32 x.vy) c9
       replace gg := kep_next gg g3
       have zx_w3 : w.heap.size < w3.heap.size := World.block_lt_of_cell? _ _ x0
       have zy_w3 : w.heap.size + 1 < w3.heap.size := World.block_lt_of_cell? _ _ y0
       have zc_w3 : w.heap.size + 1 + 1 < w3.heap.size := World.block_lt_of_cell? _ _ c0))
  go_ret
  exact ⟨rfl, gg⟩
set_option maxRecDepth 100000 in
set_option maxHeartbeats 4000000 in
theorem kgl_f (AW : Hid QAwake) (x y : Bd) (r k9 g8 g9 v0 v1 v2 v3 v4 u0 u1 u2 u3 u4 : Int) (z2 : Bool) (RR : Hid (KRr x y true)) (R2 : Hid (∀ w, Calls Try.prog 9 #[.agg #[.int .u32 x.k, .int .i32 r, .int .i32 x.ax, .int .i32 x.ay, .int .i32 x.m, .int .i32 x.o, .int .i32 x.px, .int .i32 x.py, .int .i32 x.vx, .int .i32 x.vy], .agg #[.int .u32 y.k, .int .i32 y.r, .int .i32 y.ax, .int .i32 y.ay, .int .i32 y.m, .int .i32 y.o, .int .i32 y.px, .int .i32 y.py, .int .i32 y.vx, .int .i32 y.vy]] w fun e w' => e = .returned (.bool true) ∧ Kep w.heap.size w w')) (C1 : Hid (∀ w, Calls Try.prog 10 #[.agg #[.int .u32 x.k, .int .i32 x.r, .int .i32 x.ax, .int .i32 x.ay, .int .i32 x.m, .int .i32 x.o, .int .i32 x.px, .int .i32 x.py, .int .i32 x.vx, .int .i32 x.vy], .agg #[.int .u32 y.k, .int .i32 y.r, .int .i32 y.ax, .int .i32 y.ay, .int .i32 y.m, .int .i32 y.o, .int .i32 y.px, .int .i32 y.py, .int .i32 y.vx, .int .i32 y.vy]] w fun e w' => e = .returned (.tuple #[.agg #[.int .u32 v0, .int .u32 v1, .int .i32 v2, .int .i32 v3, .int .i32 v4], .bool false]) ∧ Kep w.heap.size w w')) (C2 : Hid (∀ w, Calls Try.prog 10 #[.agg #[.int .u32 x.k, .int .i32 r, .int .i32 x.ax, .int .i32 x.ay, .int .i32 x.m, .int .i32 x.o, .int .i32 x.px, .int .i32 x.py, .int .i32 x.vx, .int .i32 x.vy], .agg #[.int .u32 y.k, .int .i32 y.r, .int .i32 y.ax, .int .i32 y.ay, .int .i32 y.m, .int .i32 y.o, .int .i32 y.px, .int .i32 y.py, .int .i32 y.vx, .int .i32 y.vy]] w fun e w' => e = .returned (.tuple #[.agg #[.int .u32 u0, .int .u32 u1, .int .i32 u2, .int .i32 u3, .int .i32 u4], .bool z2]) ∧ Kep w.heap.size w w')) (C3 : Hid (∀ w, Calls Try.prog 13 #[.agg #[.int .u32 x.k, .int .i32 r, .int .i32 x.ax, .int .i32 x.ay, .int .i32 x.m, .int .i32 x.o, .int .i32 x.px, .int .i32 x.py, .int .i32 x.vx, .int .i32 x.vy], .agg #[.int .u32 y.k, .int .i32 y.r, .int .i32 y.ax, .int .i32 y.ay, .int .i32 y.m, .int .i32 y.o, .int .i32 y.px, .int .i32 y.py, .int .i32 y.vx, .int .i32 y.vy]] w fun e w' => e = .returned (.int .i64 g8) ∧ Kep w.heap.size w w')) (C4 : Hid (∀ w, Calls Try.prog 13 #[.agg #[.int .u32 x.k, .int .i32 x.r, .int .i32 x.ax, .int .i32 x.ay, .int .i32 x.m, .int .i32 x.o, .int .i32 x.px, .int .i32 x.py, .int .i32 x.vx, .int .i32 x.vy], .agg #[.int .u32 y.k, .int .i32 y.r, .int .i32 y.ax, .int .i32 y.ay, .int .i32 y.m, .int .i32 y.o, .int .i32 y.px, .int .i32 y.py, .int .i32 y.vx, .int .i32 y.vy]] w fun e w' => e = .returned (.int .i64 g9) ∧ Kep w.heap.size w w')) (q0 : decide (r < x.r) = false) (a1 : IntKind.i32.wrap (r - x.r) = k9) (a2 : IntKind.i64.wrap k9 = k9) (a3 : IntKind.i64.wrap (g9 - k9) = g8) (w : World) : Calls Try.prog 7 #[.agg #[.int .u32 x.k, .int .i32 x.r, .int .i32 x.ax, .int .i32 x.ay, .int .i32 x.m, .int .i32 x.o, .int .i32 x.px, .int .i32 x.py, .int .i32 x.vx, .int .i32 x.vy], .agg #[.int .u32 y.k, .int .i32 y.r, .int .i32 y.ax, .int .i32 y.ay, .int .i32 y.m, .int .i32 y.o, .int .i32 y.px, .int .i32 y.py, .int .i32 y.vx, .int .i32 y.vy], .int .i32 r] w fun e w' => e = .returned (.bool true) ∧ Kep w.heap.size w w' := by
  have eg : (g8 != g8) = false := by simp
  have ek : (k9 == k9) = true := by simp
  have vv := fun w => vec_cmp v2 v3 v2 v3 true (by simp) w
  go_enter Try.func7, Try.ntmps7
  go_wp2_with (first
    | ((with_reducible refine (AW.out _).mono ?_); rintro e w1 ⟨rfl, g1⟩
       have x0 := Kep.all g1 (a := ⟨w.heap.size, 0, none⟩) (v := .int .u32 x.k) (by (repeat (first | rw [World.cell?_drew] | rw [World.cell?_alloc_past _ _ _ (by first | (simp; done) | (simp; omega))])); rw [World.cell?_alloc_at _ _ _ _ (by simp)]; rfl)
       have x1 := Kep.all g1 (a := ⟨w.heap.size, 1, none⟩) (v := .int .i32 x.r) (by (repeat (first | rw [World.cell?_drew] | rw [World.cell?_alloc_past _ _ _ (by first | (simp; done) | (simp; omega))])); rw [World.cell?_alloc_at _ _ _ _ (by simp)]; rfl)
       have x2 := Kep.all g1 (a := ⟨w.heap.size, 2, none⟩) (v := .int .i32 x.ax) (by (repeat (first | rw [World.cell?_drew] | rw [World.cell?_alloc_past _ _ _ (by first | (simp; done) | (simp; omega))])); rw [World.cell?_alloc_at _ _ _ _ (by simp)]; rfl)
       have x3 := Kep.all g1 (a := ⟨w.heap.size, 3, none⟩) (v := .int .i32 x.ay) (by (repeat (first | rw [World.cell?_drew] | rw [World.cell?_alloc_past _ _ _ (by first | (simp; done) | (simp; omega))])); rw [World.cell?_alloc_at _ _ _ _ (by simp)]; rfl)
       have x4 := Kep.all g1 (a := ⟨w.heap.size, 4, none⟩) (v := .int .i32 x.m) (by (repeat (first | rw [World.cell?_drew] | rw [World.cell?_alloc_past _ _ _ (by first | (simp; done) | (simp; omega))])); rw [World.cell?_alloc_at _ _ _ _ (by simp)]; rfl)
       have x5 := Kep.all g1 (a := ⟨w.heap.size, 5, none⟩) (v := .int .i32 x.o) (by (repeat (first | rw [World.cell?_drew] | rw [World.cell?_alloc_past _ _ _ (by first | (simp; done) | (simp; omega))])); rw [World.cell?_alloc_at _ _ _ _ (by simp)]; rfl)
       have x6 := Kep.all g1 (a := ⟨w.heap.size, 6, none⟩) (v := .int .i32 x.px) (by (repeat (first | rw [World.cell?_drew] | rw [World.cell?_alloc_past _ _ _ (by first | (simp; done) | (simp; omega))])); rw [World.cell?_alloc_at _ _ _ _ (by simp)]; rfl)
       have x7 := Kep.all g1 (a := ⟨w.heap.size, 7, none⟩) (v := .int .i32 x.py) (by (repeat (first | rw [World.cell?_drew] | rw [World.cell?_alloc_past _ _ _ (by first | (simp; done) | (simp; omega))])); rw [World.cell?_alloc_at _ _ _ _ (by simp)]; rfl)
       have x8 := Kep.all g1 (a := ⟨w.heap.size, 8, none⟩) (v := .int .i32 x.vx) (by (repeat (first | rw [World.cell?_drew] | rw [World.cell?_alloc_past _ _ _ (by first | (simp; done) | (simp; omega))])); rw [World.cell?_alloc_at _ _ _ _ (by simp)]; rfl)
       have x9 := Kep.all g1 (a := ⟨w.heap.size, 9, none⟩) (v := .int .i32 x.vy) (by (repeat (first | rw [World.cell?_drew] | rw [World.cell?_alloc_past _ _ _ (by first | (simp; done) | (simp; omega))])); rw [World.cell?_alloc_at _ _ _ _ (by simp)]; rfl)
       have y0 := Kep.all g1 (a := ⟨w.heap.size + 1, 0, none⟩) (v := .int .u32 y.k) (by (repeat (first | rw [World.cell?_drew] | rw [World.cell?_alloc_past _ _ _ (by first | (simp; done) | (simp; omega))])); rw [World.cell?_alloc_at _ _ _ _ (by simp)]; rfl)
       have y1 := Kep.all g1 (a := ⟨w.heap.size + 1, 1, none⟩) (v := .int .i32 y.r) (by (repeat (first | rw [World.cell?_drew] | rw [World.cell?_alloc_past _ _ _ (by first | (simp; done) | (simp; omega))])); rw [World.cell?_alloc_at _ _ _ _ (by simp)]; rfl)
       have y2 := Kep.all g1 (a := ⟨w.heap.size + 1, 2, none⟩) (v := .int .i32 y.ax) (by (repeat (first | rw [World.cell?_drew] | rw [World.cell?_alloc_past _ _ _ (by first | (simp; done) | (simp; omega))])); rw [World.cell?_alloc_at _ _ _ _ (by simp)]; rfl)
       have y3 := Kep.all g1 (a := ⟨w.heap.size + 1, 3, none⟩) (v := .int .i32 y.ay) (by (repeat (first | rw [World.cell?_drew] | rw [World.cell?_alloc_past _ _ _ (by first | (simp; done) | (simp; omega))])); rw [World.cell?_alloc_at _ _ _ _ (by simp)]; rfl)
       have y4 := Kep.all g1 (a := ⟨w.heap.size + 1, 4, none⟩) (v := .int .i32 y.m) (by (repeat (first | rw [World.cell?_drew] | rw [World.cell?_alloc_past _ _ _ (by first | (simp; done) | (simp; omega))])); rw [World.cell?_alloc_at _ _ _ _ (by simp)]; rfl)
       have y5 := Kep.all g1 (a := ⟨w.heap.size + 1, 5, none⟩) (v := .int .i32 y.o) (by (repeat (first | rw [World.cell?_drew] | rw [World.cell?_alloc_past _ _ _ (by first | (simp; done) | (simp; omega))])); rw [World.cell?_alloc_at _ _ _ _ (by simp)]; rfl)
       have y6 := Kep.all g1 (a := ⟨w.heap.size + 1, 6, none⟩) (v := .int .i32 y.px) (by (repeat (first | rw [World.cell?_drew] | rw [World.cell?_alloc_past _ _ _ (by first | (simp; done) | (simp; omega))])); rw [World.cell?_alloc_at _ _ _ _ (by simp)]; rfl)
       have y7 := Kep.all g1 (a := ⟨w.heap.size + 1, 7, none⟩) (v := .int .i32 y.py) (by (repeat (first | rw [World.cell?_drew] | rw [World.cell?_alloc_past _ _ _ (by first | (simp; done) | (simp; omega))])); rw [World.cell?_alloc_at _ _ _ _ (by simp)]; rfl)
       have y8 := Kep.all g1 (a := ⟨w.heap.size + 1, 8, none⟩) (v := .int .i32 y.vx) (by (repeat (first | rw [World.cell?_drew] | rw [World.cell?_alloc_past _ _ _ (by first | (simp; done) | (simp; omega))])); rw [World.cell?_alloc_at _ _ _ _ (by simp)]; rfl)
       have y9 := Kep.all g1 (a := ⟨w.heap.size + 1, 9, none⟩) (v := .int .i32 y.vy) (by (repeat (first | rw [World.cell?_drew] | rw [World.cell?_alloc_past _ _ _ (by first | (simp; done) | (simp; omega))])); rw [World.cell?_alloc_at _ _ _ _ (by simp)]; rfl)
       have c0 := Kep.all g1 (a := ⟨w.heap.size + 1 + 1, 0, none⟩) (v := .int .u32 x.k) (by (repeat (first | rw [World.cell?_drew] | rw [World.cell?_alloc_past _ _ _ (by first | (simp; done) | (simp; omega))])); rw [World.cell?_alloc_at _ _ _ _ (by simp)]; rfl)
       have c1 := Kep.all g1 (a := ⟨w.heap.size + 1 + 1, 1, none⟩) (v := .int .i32 r) (by (repeat (first | rw [World.cell?_drew] | rw [World.cell?_alloc_past _ _ _ (by first | (simp; done) | (simp; omega))])); rw [World.cell?_alloc_at _ _ _ _ (by simp)]; rfl)
       have c2 := Kep.all g1 (a := ⟨w.heap.size + 1 + 1, 2, none⟩) (v := .int .i32 x.ax) (by (repeat (first | rw [World.cell?_drew] | rw [World.cell?_alloc_past _ _ _ (by first | (simp; done) | (simp; omega))])); rw [World.cell?_alloc_at _ _ _ _ (by simp)]; rfl)
       have c3 := Kep.all g1 (a := ⟨w.heap.size + 1 + 1, 3, none⟩) (v := .int .i32 x.ay) (by (repeat (first | rw [World.cell?_drew] | rw [World.cell?_alloc_past _ _ _ (by first | (simp; done) | (simp; omega))])); rw [World.cell?_alloc_at _ _ _ _ (by simp)]; rfl)
       have c4 := Kep.all g1 (a := ⟨w.heap.size + 1 + 1, 4, none⟩) (v := .int .i32 x.m) (by (repeat (first | rw [World.cell?_drew] | rw [World.cell?_alloc_past _ _ _ (by first | (simp; done) | (simp; omega))])); rw [World.cell?_alloc_at _ _ _ _ (by simp)]; rfl)
       have c5 := Kep.all g1 (a := ⟨w.heap.size + 1 + 1, 5, none⟩) (v := .int .i32 x.o) (by (repeat (first | rw [World.cell?_drew] | rw [World.cell?_alloc_past _ _ _ (by first | (simp; done) | (simp; omega))])); rw [World.cell?_alloc_at _ _ _ _ (by simp)]; rfl)
       have c6 := Kep.all g1 (a := ⟨w.heap.size + 1 + 1, 6, none⟩) (v := .int .i32 x.px) (by (repeat (first | rw [World.cell?_drew] | rw [World.cell?_alloc_past _ _ _ (by first | (simp; done) | (simp; omega))])); rw [World.cell?_alloc_at _ _ _ _ (by simp)]; rfl)
       have c7 := Kep.all g1 (a := ⟨w.heap.size + 1 + 1, 7, none⟩) (v := .int .i32 x.py) (by (repeat (first | rw [World.cell?_drew] | rw [World.cell?_alloc_past _ _ _ (by first | (simp; done) | (simp; omega))])); rw [World.cell?_alloc_at _ _ _ _ (by simp)]; rfl)
       have c8 := Kep.all g1 (a := ⟨w.heap.size + 1 + 1, 8, none⟩) (v := .int .i32 x.vx) (by (repeat (first | rw [World.cell?_drew] | rw [World.cell?_alloc_past _ _ _ (by first | (simp; done) | (simp; omega))])); rw [World.cell?_alloc_at _ _ _ _ (by simp)]; rfl)
       have c9 := Kep.all g1 (a := ⟨w.heap.size + 1 + 1, 9, none⟩) (v := .int .i32 x.vy) (by (repeat (first | rw [World.cell?_drew] | rw [World.cell?_alloc_past _ _ _ (by first | (simp; done) | (simp; omega))])); rw [World.cell?_alloc_at _ _ _ _ (by simp)]; rfl)
       have gg := kep_next (kep_more (kep_more (kep_more (Kep.refl _ _) _) _) _) g1
       have zx_w1 : w.heap.size < w1.heap.size := World.block_lt_of_cell? _ _ x0
       have zy_w1 : w.heap.size + 1 < w1.heap.size := World.block_lt_of_cell? _ _ y0
       have zc_w1 : w.heap.size + 1 + 1 < w1.heap.size := World.block_lt_of_cell? _ _ c0)
    | ((with_reducible refine (RR.out _).mono ?_); rintro e w2 ⟨rfl, g2⟩
       replace x0 := Kep.all g2 (a := ⟨w.heap.size, 0, none⟩) (v := .int .u32 x.k) x0
       replace x1 := Kep.all g2 (a := ⟨w.heap.size, 1, none⟩) (v := .int .i32 x.r) x1
       replace x2 := Kep.all g2 (a := ⟨w.heap.size, 2, none⟩) (v := .int .i32 x.ax) x2
       replace x3 := Kep.all g2 (a := ⟨w.heap.size, 3, none⟩) (v := .int .i32 x.ay) x3
       replace x4 := Kep.all g2 (a := ⟨w.heap.size, 4, none⟩) (v := .int .i32 x.m) x4
       replace x5 := Kep.all g2 (a := ⟨w.heap.size, 5, none⟩) (v := .int .i32 x.o) x5
       replace x6 := Kep.all g2 (a := ⟨w.heap.size, 6, none⟩) (v := .int .i32 x.px) x6
       replace x7 := Kep.all g2 (a := ⟨w.heap.size, 7, none⟩) (v := .int .i32 x.py) x7
       replace x8 := Kep.all g2 (a := ⟨w.heap.size, 8, none⟩) (v := .int .i32 x.vx) x8
       replace x9 := Kep.all g2 (a := ⟨w.heap.size, 9, none⟩) (v := .int .i32 x.vy) x9
       replace y0 := Kep.all g2 (a := ⟨w.heap.size + 1, 0, none⟩) (v := .int .u32 y.k) y0
       replace y1 := Kep.all g2 (a := ⟨w.heap.size + 1, 1, none⟩) (v := .int .i32 y.r) y1
       replace y2 := Kep.all g2 (a := ⟨w.heap.size + 1, 2, none⟩) (v := .int .i32 y.ax) y2
       replace y3 := Kep.all g2 (a := ⟨w.heap.size + 1, 3, none⟩) (v := .int .i32 y.ay) y3
       replace y4 := Kep.all g2 (a := ⟨w.heap.size + 1, 4, none⟩) (v := .int .i32 y.m) y4
       replace y5 := Kep.all g2 (a := ⟨w.heap.size + 1, 5, none⟩) (v := .int .i32 y.o) y5
       replace y6 := Kep.all g2 (a := ⟨w.heap.size + 1, 6, none⟩) (v := .int .i32 y.px) y6
       replace y7 := Kep.all g2 (a := ⟨w.heap.size + 1, 7, none⟩) (v := .int .i32 y.py) y7
       replace y8 := Kep.all g2 (a := ⟨w.heap.size + 1, 8, none⟩) (v := .int .i32 y.vx) y8
       replace y9 := Kep.all g2 (a := ⟨w.heap.size + 1, 9, none⟩) (v := .int .i32 y.vy) y9
       replace c0 := Kep.all g2 (a := ⟨w.heap.size + 1 + 1, 0, none⟩) (v := .int .u32 x.k) c0
       replace c1 := Kep.all g2 (a := ⟨w.heap.size + 1 + 1, 1, none⟩) (v := .int .i32 r) c1
       replace c2 := Kep.all g2 (a := ⟨w.heap.size + 1 + 1, 2, none⟩) (v := .int .i32 x.ax) c2
       replace c3 := Kep.all g2 (a := ⟨w.heap.size + 1 + 1, 3, none⟩) (v := .int .i32 x.ay) c3
       replace c4 := Kep.all g2 (a := ⟨w.heap.size + 1 + 1, 4, none⟩) (v := .int .i32 x.m) c4
       replace c5 := Kep.all g2 (a := ⟨w.heap.size + 1 + 1, 5, none⟩) (v := .int .i32 x.o) c5
       replace c6 := Kep.all g2 (a := ⟨w.heap.size + 1 + 1, 6, none⟩) (v := .int .i32 x.px) c6
       replace c7 := Kep.all g2 (a := ⟨w.heap.size + 1 + 1, 7, none⟩) (v := .int .i32 x.py) c7
       replace c8 := Kep.all g2 (a := ⟨w.heap.size + 1 + 1, 8, none⟩) (v := .int .i32 x.vx) c8
       replace c9 := Kep.all g2 (a := ⟨w.heap.size + 1 + 1, 9, none⟩) (v := .int .i32 x.vy) c9
       replace gg := kep_next gg g2
       have zx_w2 : w.heap.size < w2.heap.size := World.block_lt_of_cell? _ _ x0
       have zy_w2 : w.heap.size + 1 < w2.heap.size := World.block_lt_of_cell? _ _ y0
       have zc_w2 : w.heap.size + 1 + 1 < w2.heap.size := World.block_lt_of_cell? _ _ c0)
    | ((with_reducible refine (R2.out _).mono ?_); rintro e w3 ⟨rfl, g3⟩
       replace x0 := Kep.all g3 (a := ⟨w.heap.size, 0, none⟩) (v := .int .u32 x.k) x0
       replace x1 := Kep.all g3 (a := ⟨w.heap.size, 1, none⟩) (v := .int .i32 x.r) x1
       replace x2 := Kep.all g3 (a := ⟨w.heap.size, 2, none⟩) (v := .int .i32 x.ax) x2
       replace x3 := Kep.all g3 (a := ⟨w.heap.size, 3, none⟩) (v := .int .i32 x.ay) x3
       replace x4 := Kep.all g3 (a := ⟨w.heap.size, 4, none⟩) (v := .int .i32 x.m) x4
       replace x5 := Kep.all g3 (a := ⟨w.heap.size, 5, none⟩) (v := .int .i32 x.o) x5
       replace x6 := Kep.all g3 (a := ⟨w.heap.size, 6, none⟩) (v := .int .i32 x.px) x6
       replace x7 := Kep.all g3 (a := ⟨w.heap.size, 7, none⟩) (v := .int .i32 x.py) x7
       replace x8 := Kep.all g3 (a := ⟨w.heap.size, 8, none⟩) (v := .int .i32 x.vx) x8
       replace x9 := Kep.all g3 (a := ⟨w.heap.size, 9, none⟩) (v := .int .i32 x.vy) x9
       replace y0 := Kep.all g3 (a := ⟨w.heap.size + 1, 0, none⟩) (v := .int .u32 y.k) y0
       replace y1 := Kep.all g3 (a := ⟨w.heap.size + 1, 1, none⟩) (v := .int .i32 y.r) y1
       replace y2 := Kep.all g3 (a := ⟨w.heap.size + 1, 2, none⟩) (v := .int .i32 y.ax) y2
       replace y3 := Kep.all g3 (a := ⟨w.heap.size + 1, 3, none⟩) (v := .int .i32 y.ay) y3
       replace y4 := Kep.all g3 (a := ⟨w.heap.size + 1, 4, none⟩) (v := .int .i32 y.m) y4
       replace y5 := Kep.all g3 (a := ⟨w.heap.size + 1, 5, none⟩) (v := .int .i32 y.o) y5
       replace y6 := Kep.all g3 (a := ⟨w.heap.size + 1, 6, none⟩) (v := .int .i32 y.px) y6
       replace y7 := Kep.all g3 (a := ⟨w.heap.size + 1, 7, none⟩) (v := .int .i32 y.py) y7
       replace y8 := Kep.all g3 (a := ⟨w.heap.size + 1, 8, none⟩) (v := .int .i32 y.vx) y8
       replace y9 := Kep.all g3 (a := ⟨w.heap.size + 1, 9, none⟩) (v := .int .i32 y.vy) y9
       replace c0 := Kep.all g3 (a := ⟨w.heap.size + 1 + 1, 0, none⟩) (v := .int .u32 x.k) c0
       replace c1 := Kep.all g3 (a := ⟨w.heap.size + 1 + 1, 1, none⟩) (v := .int .i32 r) c1
       replace c2 := Kep.all g3 (a := ⟨w.heap.size + 1 + 1, 2, none⟩) (v := .int .i32 x.ax) c2
       replace c3 := Kep.all g3 (a := ⟨w.heap.size + 1 + 1, 3, none⟩) (v := .int .i32 x.ay) c3
       replace c4 := Kep.all g3 (a := ⟨w.heap.size + 1 + 1, 4, none⟩) (v := .int .i32 x.m) c4
       replace c5 := Kep.all g3 (a := ⟨w.heap.size + 1 + 1, 5, none⟩) (v := .int .i32 x.o) c5
       replace c6 := Kep.all g3 (a := ⟨w.heap.size + 1 + 1, 6, none⟩) (v := .int .i32 x.px) c6
       replace c7 := Kep.all g3 (a := ⟨w.heap.size + 1 + 1, 7, none⟩) (v := .int .i32 x.py) c7
       replace c8 := Kep.all g3 (a := ⟨w.heap.size + 1 + 1, 8, none⟩) (v := .int .i32 x.vx) c8
       replace c9 := Kep.all g3 (a := ⟨w.heap.size + 1 + 1, 9, none⟩) (v := .int .i32 x.vy) c9
       replace gg := kep_next gg g3
       have zx_w3 : w.heap.size < w3.heap.size := World.block_lt_of_cell? _ _ x0
       have zy_w3 : w.heap.size + 1 < w3.heap.size := World.block_lt_of_cell? _ _ y0
       have zc_w3 : w.heap.size + 1 + 1 < w3.heap.size := World.block_lt_of_cell? _ _ c0)
    | ((with_reducible refine (C1.out _).mono ?_); rintro e w4 ⟨rfl, g4⟩
       replace x0 := Kep.all g4 (a := ⟨w.heap.size, 0, none⟩) (v := .int .u32 x.k) x0
       replace x1 := Kep.all g4 (a := ⟨w.heap.size, 1, none⟩) (v := .int .i32 x.r) x1
       replace x2 := Kep.all g4 (a := ⟨w.heap.size, 2, none⟩) (v := .int .i32 x.ax) x2
       replace x3 := Kep.all g4 (a := ⟨w.heap.size, 3, none⟩) (v := .int .i32 x.ay) x3
       replace x4 := Kep.all g4 (a := ⟨w.heap.size, 4, none⟩) (v := .int .i32 x.m) x4
       replace x5 := Kep.all g4 (a := ⟨w.heap.size, 5, none⟩) (v := .int .i32 x.o) x5
       replace x6 := Kep.all g4 (a := ⟨w.heap.size, 6, none⟩) (v := .int .i32 x.px) x6
       replace x7 := Kep.all g4 (a := ⟨w.heap.size, 7, none⟩) (v := .int .i32 x.py) x7
       replace x8 := Kep.all g4 (a := ⟨w.heap.size, 8, none⟩) (v := .int .i32 x.vx) x8
       replace x9 := Kep.all g4 (a := ⟨w.heap.size, 9, none⟩) (v := .int .i32 x.vy) x9
       replace y0 := Kep.all g4 (a := ⟨w.heap.size + 1, 0, none⟩) (v := .int .u32 y.k) y0
       replace y1 := Kep.all g4 (a := ⟨w.heap.size + 1, 1, none⟩) (v := .int .i32 y.r) y1
       replace y2 := Kep.all g4 (a := ⟨w.heap.size + 1, 2, none⟩) (v := .int .i32 y.ax) y2
       replace y3 := Kep.all g4 (a := ⟨w.heap.size + 1, 3, none⟩) (v := .int .i32 y.ay) y3
       replace y4 := Kep.all g4 (a := ⟨w.heap.size + 1, 4, none⟩) (v := .int .i32 y.m) y4
       replace y5 := Kep.all g4 (a := ⟨w.heap.size + 1, 5, none⟩) (v := .int .i32 y.o) y5
       replace y6 := Kep.all g4 (a := ⟨w.heap.size + 1, 6, none⟩) (v := .int .i32 y.px) y6
       replace y7 := Kep.all g4 (a := ⟨w.heap.size + 1, 7, none⟩) (v := .int .i32 y.py) y7
       replace y8 := Kep.all g4 (a := ⟨w.heap.size + 1, 8, none⟩) (v := .int .i32 y.vx) y8
       replace y9 := Kep.all g4 (a := ⟨w.heap.size + 1, 9, none⟩) (v := .int .i32 y.vy) y9
       replace c0 := Kep.all g4 (a := ⟨w.heap.size + 1 + 1, 0, none⟩) (v := .int .u32 x.k) c0
       replace c1 := Kep.all g4 (a := ⟨w.heap.size + 1 + 1, 1, none⟩) (v := .int .i32 r) c1
       replace c2 := Kep.all g4 (a := ⟨w.heap.size + 1 + 1, 2, none⟩) (v := .int .i32 x.ax) c2
       replace c3 := Kep.all g4 (a := ⟨w.heap.size + 1 + 1, 3, none⟩) (v := .int .i32 x.ay) c3
       replace c4 := Kep.all g4 (a := ⟨w.heap.size + 1 + 1, 4, none⟩) (v := .int .i32 x.m) c4
       replace c5 := Kep.all g4 (a := ⟨w.heap.size + 1 + 1, 5, none⟩) (v := .int .i32 x.o) c5
       replace c6 := Kep.all g4 (a := ⟨w.heap.size + 1 + 1, 6, none⟩) (v := .int .i32 x.px) c6
       replace c7 := Kep.all g4 (a := ⟨w.heap.size + 1 + 1, 7, none⟩) (v := .int .i32 x.py) c7
       replace c8 := Kep.all g4 (a := ⟨w.heap.size + 1 + 1, 8, none⟩) (v := .int .i32 x.vx) c8
       replace c9 := Kep.all g4 (a := ⟨w.heap.size + 1 + 1, 9, none⟩) (v := .int .i32 x.vy) c9
       replace gg := kep_next gg g4
       have zx_w4 : w.heap.size < w4.heap.size := World.block_lt_of_cell? _ _ x0
       have zy_w4 : w.heap.size + 1 < w4.heap.size := World.block_lt_of_cell? _ _ y0
       have zc_w4 : w.heap.size + 1 + 1 < w4.heap.size := World.block_lt_of_cell? _ _ c0)
    | ((with_reducible refine (C2.out _).mono ?_); rintro e w5 ⟨rfl, g5⟩
       replace x0 := Kep.all g5 (a := ⟨w.heap.size, 0, none⟩) (v := .int .u32 x.k) (Kep.all (kep_more (Kep.refl _ _) _) x0)
       replace x1 := Kep.all g5 (a := ⟨w.heap.size, 1, none⟩) (v := .int .i32 x.r) (Kep.all (kep_more (Kep.refl _ _) _) x1)
       replace x2 := Kep.all g5 (a := ⟨w.heap.size, 2, none⟩) (v := .int .i32 x.ax) (Kep.all (kep_more (Kep.refl _ _) _) x2)
       replace x3 := Kep.all g5 (a := ⟨w.heap.size, 3, none⟩) (v := .int .i32 x.ay) (Kep.all (kep_more (Kep.refl _ _) _) x3)
       replace x4 := Kep.all g5 (a := ⟨w.heap.size, 4, none⟩) (v := .int .i32 x.m) (Kep.all (kep_more (Kep.refl _ _) _) x4)
       replace x5 := Kep.all g5 (a := ⟨w.heap.size, 5, none⟩) (v := .int .i32 x.o) (Kep.all (kep_more (Kep.refl _ _) _) x5)
       replace x6 := Kep.all g5 (a := ⟨w.heap.size, 6, none⟩) (v := .int .i32 x.px) (Kep.all (kep_more (Kep.refl _ _) _) x6)
       replace x7 := Kep.all g5 (a := ⟨w.heap.size, 7, none⟩) (v := .int .i32 x.py) (Kep.all (kep_more (Kep.refl _ _) _) x7)
       replace x8 := Kep.all g5 (a := ⟨w.heap.size, 8, none⟩) (v := .int .i32 x.vx) (Kep.all (kep_more (Kep.refl _ _) _) x8)
       replace x9 := Kep.all g5 (a := ⟨w.heap.size, 9, none⟩) (v := .int .i32 x.vy) (Kep.all (kep_more (Kep.refl _ _) _) x9)
       replace y0 := Kep.all g5 (a := ⟨w.heap.size + 1, 0, none⟩) (v := .int .u32 y.k) (Kep.all (kep_more (Kep.refl _ _) _) y0)
       replace y1 := Kep.all g5 (a := ⟨w.heap.size + 1, 1, none⟩) (v := .int .i32 y.r) (Kep.all (kep_more (Kep.refl _ _) _) y1)
       replace y2 := Kep.all g5 (a := ⟨w.heap.size + 1, 2, none⟩) (v := .int .i32 y.ax) (Kep.all (kep_more (Kep.refl _ _) _) y2)
       replace y3 := Kep.all g5 (a := ⟨w.heap.size + 1, 3, none⟩) (v := .int .i32 y.ay) (Kep.all (kep_more (Kep.refl _ _) _) y3)
       replace y4 := Kep.all g5 (a := ⟨w.heap.size + 1, 4, none⟩) (v := .int .i32 y.m) (Kep.all (kep_more (Kep.refl _ _) _) y4)
       replace y5 := Kep.all g5 (a := ⟨w.heap.size + 1, 5, none⟩) (v := .int .i32 y.o) (Kep.all (kep_more (Kep.refl _ _) _) y5)
       replace y6 := Kep.all g5 (a := ⟨w.heap.size + 1, 6, none⟩) (v := .int .i32 y.px) (Kep.all (kep_more (Kep.refl _ _) _) y6)
       replace y7 := Kep.all g5 (a := ⟨w.heap.size + 1, 7, none⟩) (v := .int .i32 y.py) (Kep.all (kep_more (Kep.refl _ _) _) y7)
       replace y8 := Kep.all g5 (a := ⟨w.heap.size + 1, 8, none⟩) (v := .int .i32 y.vx) (Kep.all (kep_more (Kep.refl _ _) _) y8)
       replace y9 := Kep.all g5 (a := ⟨w.heap.size + 1, 9, none⟩) (v := .int .i32 y.vy) (Kep.all (kep_more (Kep.refl _ _) _) y9)
       replace c0 := Kep.all g5 (a := ⟨w.heap.size + 1 + 1, 0, none⟩) (v := .int .u32 x.k) (Kep.all (kep_more (Kep.refl _ _) _) c0)
       replace c1 := Kep.all g5 (a := ⟨w.heap.size + 1 + 1, 1, none⟩) (v := .int .i32 r) (Kep.all (kep_more (Kep.refl _ _) _) c1)
       replace c2 := Kep.all g5 (a := ⟨w.heap.size + 1 + 1, 2, none⟩) (v := .int .i32 x.ax) (Kep.all (kep_more (Kep.refl _ _) _) c2)
       replace c3 := Kep.all g5 (a := ⟨w.heap.size + 1 + 1, 3, none⟩) (v := .int .i32 x.ay) (Kep.all (kep_more (Kep.refl _ _) _) c3)
       replace c4 := Kep.all g5 (a := ⟨w.heap.size + 1 + 1, 4, none⟩) (v := .int .i32 x.m) (Kep.all (kep_more (Kep.refl _ _) _) c4)
       replace c5 := Kep.all g5 (a := ⟨w.heap.size + 1 + 1, 5, none⟩) (v := .int .i32 x.o) (Kep.all (kep_more (Kep.refl _ _) _) c5)
       replace c6 := Kep.all g5 (a := ⟨w.heap.size + 1 + 1, 6, none⟩) (v := .int .i32 x.px) (Kep.all (kep_more (Kep.refl _ _) _) c6)
       replace c7 := Kep.all g5 (a := ⟨w.heap.size + 1 + 1, 7, none⟩) (v := .int .i32 x.py) (Kep.all (kep_more (Kep.refl _ _) _) c7)
       replace c8 := Kep.all g5 (a := ⟨w.heap.size + 1 + 1, 8, none⟩) (v := .int .i32 x.vx) (Kep.all (kep_more (Kep.refl _ _) _) c8)
       replace c9 := Kep.all g5 (a := ⟨w.heap.size + 1 + 1, 9, none⟩) (v := .int .i32 x.vy) (Kep.all (kep_more (Kep.refl _ _) _) c9)
       have e0 := Kep.all g5 (a := ⟨w4.heap.size, 0, none⟩) (v := .int .u32 v0) (by (repeat (first | rw [World.cell?_drew] | rw [World.cell?_alloc_past _ _ _ (by first | (simp; done) | (simp; omega))])); rw [World.cell?_alloc_at _ _ _ _ (by simp)]; rfl)
       have e1 := Kep.all g5 (a := ⟨w4.heap.size, 1, none⟩) (v := .int .u32 v1) (by (repeat (first | rw [World.cell?_drew] | rw [World.cell?_alloc_past _ _ _ (by first | (simp; done) | (simp; omega))])); rw [World.cell?_alloc_at _ _ _ _ (by simp)]; rfl)
       have e2 := Kep.all g5 (a := ⟨w4.heap.size, 2, none⟩) (v := .int .i32 v2) (by (repeat (first | rw [World.cell?_drew] | rw [World.cell?_alloc_past _ _ _ (by first | (simp; done) | (simp; omega))])); rw [World.cell?_alloc_at _ _ _ _ (by simp)]; rfl)
       have e3 := Kep.all g5 (a := ⟨w4.heap.size, 3, none⟩) (v := .int .i32 v3) (by (repeat (first | rw [World.cell?_drew] | rw [World.cell?_alloc_past _ _ _ (by first | (simp; done) | (simp; omega))])); rw [World.cell?_alloc_at _ _ _ _ (by simp)]; rfl)
       have e4 := Kep.all g5 (a := ⟨w4.heap.size, 4, none⟩) (v := .int .i32 v4) (by (repeat (first | rw [World.cell?_drew] | rw [World.cell?_alloc_past _ _ _ (by first | (simp; done) | (simp; omega))])); rw [World.cell?_alloc_at _ _ _ _ (by simp)]; rfl)
       replace gg := kep_next (kep_more gg _) g5
       have zx_w5 : w.heap.size < w5.heap.size := World.block_lt_of_cell? _ _ x0
       have zy_w5 : w.heap.size + 1 < w5.heap.size := World.block_lt_of_cell? _ _ y0
       have zc_w5 : w.heap.size + 1 + 1 < w5.heap.size := World.block_lt_of_cell? _ _ c0
       have ze_w5 : w4.heap.size < w5.heap.size := World.block_lt_of_cell? _ _ e0))
  generalize hW : World.alloc w5 _ = W6
  replace x0 : W6.cell? ⟨w.heap.size, 0, none⟩ = some (.int .u32 x.k) := by rw [← hW]; exact (Kep.all (kep_more (Kep.refl _ _) _) x0)
  replace x1 : W6.cell? ⟨w.heap.size, 1, none⟩ = some (.int .i32 x.r) := by rw [← hW]; exact (Kep.all (kep_more (Kep.refl _ _) _) x1)
  replace x2 : W6.cell? ⟨w.heap.size, 2, none⟩ = some (.int .i32 x.ax) := by rw [← hW]; exact (Kep.all (kep_more (Kep.refl _ _) _) x2)
  replace x3 : W6.cell? ⟨w.heap.size, 3, none⟩ = some (.int .i32 x.ay) := by rw [← hW]; exact (Kep.all (kep_more (Kep.refl _ _) _) x3)
  replace x4 : W6.cell? ⟨w.heap.size, 4, none⟩ = some (.int .i32 x.m) := by rw [← hW]; exact (Kep.all (kep_more (Kep.refl _ _) _) x4)
  replace x5 : W6.cell? ⟨w.heap.size, 5, none⟩ = some (.int .i32 x.o) := by rw [← hW]; exact (Kep.all (kep_more (Kep.refl _ _) _) x5)
  replace x6 : W6.cell? ⟨w.heap.size, 6, none⟩ = some (.int .i32 x.px) := by rw [← hW]; exact (Kep.all (kep_more (Kep.refl _ _) _) x6)
  replace x7 : W6.cell? ⟨w.heap.size, 7, none⟩ = some (.int .i32 x.py) := by rw [← hW]; exact (Kep.all (kep_more (Kep.refl _ _) _) x7)
  replace x8 : W6.cell? ⟨w.heap.size, 8, none⟩ = some (.int .i32 x.vx) := by rw [← hW]; exact (Kep.all (kep_more (Kep.refl _ _) _) x8)
  replace x9 : W6.cell? ⟨w.heap.size, 9, none⟩ = some (.int .i32 x.vy) := by rw [← hW]; exact (Kep.all (kep_more (Kep.refl _ _) _) x9)
  replace y0 : W6.cell? ⟨w.heap.size + 1, 0, none⟩ = some (.int .u32 y.k) := by rw [← hW]; exact (Kep.all (kep_more (Kep.refl _ _) _) y0)
  replace y1 : W6.cell? ⟨w.heap.size + 1, 1, none⟩ = some (.int .i32 y.r) := by rw [← hW]; exact (Kep.all (kep_more (Kep.refl _ _) _) y1)
  replace y2 : W6.cell? ⟨w.heap.size + 1, 2, none⟩ = some (.int .i32 y.ax) := by rw [← hW]; exact (Kep.all (kep_more (Kep.refl _ _) _) y2)
  replace y3 : W6.cell? ⟨w.heap.size + 1, 3, none⟩ = some (.int .i32 y.ay) := by rw [← hW]; exact (Kep.all (kep_more (Kep.refl _ _) _) y3)
  replace y4 : W6.cell? ⟨w.heap.size + 1, 4, none⟩ = some (.int .i32 y.m) := by rw [← hW]; exact (Kep.all (kep_more (Kep.refl _ _) _) y4)
  replace y5 : W6.cell? ⟨w.heap.size + 1, 5, none⟩ = some (.int .i32 y.o) := by rw [← hW]; exact (Kep.all (kep_more (Kep.refl _ _) _) y5)
  replace y6 : W6.cell? ⟨w.heap.size + 1, 6, none⟩ = some (.int .i32 y.px) := by rw [← hW]; exact (Kep.all (kep_more (Kep.refl _ _) _) y6)
  replace y7 : W6.cell? ⟨w.heap.size + 1, 7, none⟩ = some (.int .i32 y.py) := by rw [← hW]; exact (Kep.all (kep_more (Kep.refl _ _) _) y7)
  replace y8 : W6.cell? ⟨w.heap.size + 1, 8, none⟩ = some (.int .i32 y.vx) := by rw [← hW]; exact (Kep.all (kep_more (Kep.refl _ _) _) y8)
  replace y9 : W6.cell? ⟨w.heap.size + 1, 9, none⟩ = some (.int .i32 y.vy) := by rw [← hW]; exact (Kep.all (kep_more (Kep.refl _ _) _) y9)
  replace c0 : W6.cell? ⟨w.heap.size + 1 + 1, 0, none⟩ = some (.int .u32 x.k) := by rw [← hW]; exact (Kep.all (kep_more (Kep.refl _ _) _) c0)
  replace c1 : W6.cell? ⟨w.heap.size + 1 + 1, 1, none⟩ = some (.int .i32 r) := by rw [← hW]; exact (Kep.all (kep_more (Kep.refl _ _) _) c1)
  replace c2 : W6.cell? ⟨w.heap.size + 1 + 1, 2, none⟩ = some (.int .i32 x.ax) := by rw [← hW]; exact (Kep.all (kep_more (Kep.refl _ _) _) c2)
  replace c3 : W6.cell? ⟨w.heap.size + 1 + 1, 3, none⟩ = some (.int .i32 x.ay) := by rw [← hW]; exact (Kep.all (kep_more (Kep.refl _ _) _) c3)
  replace c4 : W6.cell? ⟨w.heap.size + 1 + 1, 4, none⟩ = some (.int .i32 x.m) := by rw [← hW]; exact (Kep.all (kep_more (Kep.refl _ _) _) c4)
  replace c5 : W6.cell? ⟨w.heap.size + 1 + 1, 5, none⟩ = some (.int .i32 x.o) := by rw [← hW]; exact (Kep.all (kep_more (Kep.refl _ _) _) c5)
  replace c6 : W6.cell? ⟨w.heap.size + 1 + 1, 6, none⟩ = some (.int .i32 x.px) := by rw [← hW]; exact (Kep.all (kep_more (Kep.refl _ _) _) c6)
  replace c7 : W6.cell? ⟨w.heap.size + 1 + 1, 7, none⟩ = some (.int .i32 x.py) := by rw [← hW]; exact (Kep.all (kep_more (Kep.refl _ _) _) c7)
  replace c8 : W6.cell? ⟨w.heap.size + 1 + 1, 8, none⟩ = some (.int .i32 x.vx) := by rw [← hW]; exact (Kep.all (kep_more (Kep.refl _ _) _) c8)
  replace c9 : W6.cell? ⟨w.heap.size + 1 + 1, 9, none⟩ = some (.int .i32 x.vy) := by rw [← hW]; exact (Kep.all (kep_more (Kep.refl _ _) _) c9)
  replace e0 : W6.cell? ⟨w4.heap.size, 0, none⟩ = some (.int .u32 v0) := by rw [← hW]; exact (Kep.all (kep_more (Kep.refl _ _) _) e0)
  replace e1 : W6.cell? ⟨w4.heap.size, 1, none⟩ = some (.int .u32 v1) := by rw [← hW]; exact (Kep.all (kep_more (Kep.refl _ _) _) e1)
  replace e2 : W6.cell? ⟨w4.heap.size, 2, none⟩ = some (.int .i32 v2) := by rw [← hW]; exact (Kep.all (kep_more (Kep.refl _ _) _) e2)
  replace e3 : W6.cell? ⟨w4.heap.size, 3, none⟩ = some (.int .i32 v3) := by rw [← hW]; exact (Kep.all (kep_more (Kep.refl _ _) _) e3)
  replace e4 : W6.cell? ⟨w4.heap.size, 4, none⟩ = some (.int .i32 v4) := by rw [← hW]; exact (Kep.all (kep_more (Kep.refl _ _) _) e4)
  have f0 : W6.cell? ⟨w5.heap.size, 0, none⟩ = some (.int .u32 u0) := by
    rw [← hW]
    (repeat (first | rw [World.cell?_drew] | rw [World.cell?_alloc_past _ _ _ (by first | (simp; done) | (simp; omega))])); rw [World.cell?_alloc_at _ _ _ _ (by simp)]; rfl
  have f1 : W6.cell? ⟨w5.heap.size, 1, none⟩ = some (.int .u32 u1) := by
    rw [← hW]
    (repeat (first | rw [World.cell?_drew] | rw [World.cell?_alloc_past _ _ _ (by first | (simp; done) | (simp; omega))])); rw [World.cell?_alloc_at _ _ _ _ (by simp)]; rfl
  have f2 : W6.cell? ⟨w5.heap.size, 2, none⟩ = some (.int .i32 u2) := by
    rw [← hW]
    (repeat (first | rw [World.cell?_drew] | rw [World.cell?_alloc_past _ _ _ (by first | (simp; done) | (simp; omega))])); rw [World.cell?_alloc_at _ _ _ _ (by simp)]; rfl
  have f3 : W6.cell? ⟨w5.heap.size, 3, none⟩ = some (.int .i32 u3) := by
    rw [← hW]
    (repeat (first | rw [World.cell?_drew] | rw [World.cell?_alloc_past _ _ _ (by first | (simp; done) | (simp; omega))])); rw [World.cell?_alloc_at _ _ _ _ (by simp)]; rfl
  have f4 : W6.cell? ⟨w5.heap.size, 4, none⟩ = some (.int .i32 u4) := by
    rw [← hW]
    (repeat (first | rw [World.cell?_drew] | rw [World.cell?_alloc_past _ _ _ (by first | (simp; done) | (simp; omega))])); rw [World.cell?_alloc_at _ _ _ _ (by simp)]; rfl
  replace gg : Kep w.heap.size w W6 := by rw [← hW]; exact (kep_more gg _)
  clear hW
  have zx_W6 : w.heap.size < W6.heap.size := World.block_lt_of_cell? _ _ x0
  have zy_W6 : w.heap.size + 1 < W6.heap.size := World.block_lt_of_cell? _ _ y0
  have zc_W6 : w.heap.size + 1 + 1 < W6.heap.size := World.block_lt_of_cell? _ _ c0
  have ze_W6 : w4.heap.size < W6.heap.size := World.block_lt_of_cell? _ _ e0
  have zf_W6 : w5.heap.size < W6.heap.size := World.block_lt_of_cell? _ _ f0
  refine wp_region_noPanic ?_
  refine wp_region_held_drew (S := (fun w' => w'.cell? ⟨w.heap.size, 0, none⟩ = some (.int .u32 x.k) ∧ w'.cell? ⟨w.heap.size, 1, none⟩ = some (.int .i32 x.r) ∧ w'.cell? ⟨w.heap.size, 2, none⟩ = some (.int .i32 x.ax) ∧ w'.cell? ⟨w.heap.size, 3, none⟩ = some (.int .i32 x.ay) ∧ w'.cell? ⟨w.heap.size, 4, none⟩ = some (.int .i32 x.m) ∧ w'.cell? ⟨w.heap.size, 5, none⟩ = some (.int .i32 x.o) ∧ w'.cell? ⟨w.heap.size, 6, none⟩ = some (.int .i32 x.px) ∧ w'.cell? ⟨w.heap.size, 7, none⟩ = some (.int .i32 x.py) ∧ w'.cell? ⟨w.heap.size, 8, none⟩ = some (.int .i32 x.vx) ∧ w'.cell? ⟨w.heap.size, 9, none⟩ = some (.int .i32 x.vy) ∧ w'.cell? ⟨w.heap.size + 1, 0, none⟩ = some (.int .u32 y.k) ∧ w'.cell? ⟨w.heap.size + 1, 1, none⟩ = some (.int .i32 y.r) ∧ w'.cell? ⟨w.heap.size + 1, 2, none⟩ = some (.int .i32 y.ax) ∧ w'.cell? ⟨w.heap.size + 1, 3, none⟩ = some (.int .i32 y.ay) ∧ w'.cell? ⟨w.heap.size + 1, 4, none⟩ = some (.int .i32 y.m) ∧ w'.cell? ⟨w.heap.size + 1, 5, none⟩ = some (.int .i32 y.o) ∧ w'.cell? ⟨w.heap.size + 1, 6, none⟩ = some (.int .i32 y.px) ∧ w'.cell? ⟨w.heap.size + 1, 7, none⟩ = some (.int .i32 y.py) ∧ w'.cell? ⟨w.heap.size + 1, 8, none⟩ = some (.int .i32 y.vx) ∧ w'.cell? ⟨w.heap.size + 1, 9, none⟩ = some (.int .i32 y.vy) ∧ w'.cell? ⟨w.heap.size + 1 + 1, 0, none⟩ = some (.int .u32 x.k) ∧ w'.cell? ⟨w.heap.size + 1 + 1, 1, none⟩ = some (.int .i32 r) ∧ w'.cell? ⟨w.heap.size + 1 + 1, 2, none⟩ = some (.int .i32 x.ax) ∧ w'.cell? ⟨w.heap.size + 1 + 1, 3, none⟩ = some (.int .i32 x.ay) ∧ w'.cell? ⟨w.heap.size + 1 + 1, 4, none⟩ = some (.int .i32 x.m) ∧ w'.cell? ⟨w.heap.size + 1 + 1, 5, none⟩ = some (.int .i32 x.o) ∧ w'.cell? ⟨w.heap.size + 1 + 1, 6, none⟩ = some (.int .i32 x.px) ∧ w'.cell? ⟨w.heap.size + 1 + 1, 7, none⟩ = some (.int .i32 x.py) ∧ w'.cell? ⟨w.heap.size + 1 + 1, 8, none⟩ = some (.int .i32 x.vx) ∧ w'.cell? ⟨w.heap.size + 1 + 1, 9, none⟩ = some (.int .i32 x.vy) ∧ w'.cell? ⟨w4.heap.size, 0, none⟩ = some (.int .u32 v0) ∧ w'.cell? ⟨w4.heap.size, 1, none⟩ = some (.int .u32 v1) ∧ w'.cell? ⟨w4.heap.size, 2, none⟩ = some (.int .i32 v2) ∧ w'.cell? ⟨w4.heap.size, 3, none⟩ = some (.int .i32 v3) ∧ w'.cell? ⟨w4.heap.size, 4, none⟩ = some (.int .i32 v4) ∧ w'.cell? ⟨w5.heap.size, 0, none⟩ = some (.int .u32 u0) ∧ w'.cell? ⟨w5.heap.size, 1, none⟩ = some (.int .u32 u1) ∧ w'.cell? ⟨w5.heap.size, 2, none⟩ = some (.int .i32 u2) ∧ w'.cell? ⟨w5.heap.size, 3, none⟩ = some (.int .i32 u3) ∧ w'.cell? ⟨w5.heap.size, 4, none⟩ = some (.int .i32 u4) ∧ Kep w.heap.size w w')) (by kernel_rfl) (⟨by rw [World.cell?_drew]; exact x0, by rw [World.cell?_drew]; exact x1, by rw [World.cell?_drew]; exact x2, by rw [World.cell?_drew]; exact x3, by rw [World.cell?_drew]; exact x4, by rw [World.cell?_drew]; exact x5, by rw [World.cell?_drew]; exact x6, by rw [World.cell?_drew]; exact x7, by rw [World.cell?_drew]; exact x8, by rw [World.cell?_drew]; exact x9, by rw [World.cell?_drew]; exact y0, by rw [World.cell?_drew]; exact y1, by rw [World.cell?_drew]; exact y2, by rw [World.cell?_drew]; exact y3, by rw [World.cell?_drew]; exact y4, by rw [World.cell?_drew]; exact y5, by rw [World.cell?_drew]; exact y6, by rw [World.cell?_drew]; exact y7, by rw [World.cell?_drew]; exact y8, by rw [World.cell?_drew]; exact y9, by rw [World.cell?_drew]; exact c0, by rw [World.cell?_drew]; exact c1, by rw [World.cell?_drew]; exact c2, by rw [World.cell?_drew]; exact c3, by rw [World.cell?_drew]; exact c4, by rw [World.cell?_drew]; exact c5, by rw [World.cell?_drew]; exact c6, by rw [World.cell?_drew]; exact c7, by rw [World.cell?_drew]; exact c8, by rw [World.cell?_drew]; exact c9, by rw [World.cell?_drew]; exact e0, by rw [World.cell?_drew]; exact e1, by rw [World.cell?_drew]; exact e2, by rw [World.cell?_drew]; exact e3, by rw [World.cell?_drew]; exact e4, by rw [World.cell?_drew]; exact f0, by rw [World.cell?_drew]; exact f1, by rw [World.cell?_drew]; exact f2, by rw [World.cell?_drew]; exact f3, by rw [World.cell?_drew]; exact f4, kep_drew gg⟩) (fun hH => ?_)
  refine wpAnyH_take (i := 0) (oi := { dst := some 48, op := Op.load 26 (Operand.tmp 7), type := _, pos := _, after := _, guard := none }) (v := ?_) rfl (by kernel_rfl) (by kernel_rfl) (by kernel_rfl) (fun _ _ _ h => h) (Or.inl ⟨by rfl, ?_⟩) hH ?_
  rotate_left
  · (intro w hSw; (try dsimp only at hSw); go_simp; (try with_reducible rfl))
  try simp only [Act.put, List.setIfInBounds_toArray, List.set_cons_zero, List.set_cons_succ]
  refine wpAnyH_take (i := 1) (oi := { dst := some 49, op := Op.load 26 (Operand.tmp 4), type := _, pos := _, after := _, guard := none }) (v := ?_) rfl (by kernel_rfl) (by kernel_rfl) (by kernel_rfl) (fun _ _ _ h => h) (Or.inl ⟨by rfl, ?_⟩) hH ?_
  rotate_left
  · (intro w hSw; (try dsimp only at hSw); go_simp; (try with_reducible rfl))
  try simp only [Act.put, List.setIfInBounds_toArray, List.set_cons_zero, List.set_cons_succ]
  refine wpAnyH_take (i := 3) (oi := { dst := some 51, op := Op.load 26 (Operand.tmp 3), type := _, pos := _, after := _, guard := none }) (v := ?_) rfl (by kernel_rfl) (by kernel_rfl) (by kernel_rfl) (fun _ _ _ h => h) (Or.inl ⟨by rfl, ?_⟩) hH ?_
  rotate_left
  · (intro w hSw; (try dsimp only at hSw); go_simp; (try with_reducible rfl))
  try simp only [Act.put, List.setIfInBounds_toArray, List.set_cons_zero, List.set_cons_succ]
  refine wpAnyH_take (i := 4) (oi := { dst := some 52, op := Op.load 26 (Operand.tmp 4), type := _, pos := _, after := _, guard := none }) (v := ?_) rfl (by kernel_rfl) (by kernel_rfl) (by kernel_rfl) (fun _ _ _ h => h) (Or.inl ⟨by rfl, ?_⟩) hH ?_
  rotate_left
  · (intro w hSw; (try dsimp only at hSw); go_simp; (try with_reducible rfl))
  try simp only [Act.put, List.setIfInBounds_toArray, List.set_cons_zero, List.set_cons_succ]
  refine wpAnyH_take (i := 6) (oi := { dst := some 54, op := Op.move (Operand.tmp 2), type := _, pos := _, after := _, guard := none }) (v := ?_) rfl (by kernel_rfl) (by kernel_rfl) (by kernel_rfl) (fun _ _ _ h => h) (Or.inl ⟨by rfl, ?_⟩) hH ?_
  rotate_left
  · (intro w hSw; (try dsimp only at hSw); go_simp; (try with_reducible rfl))
  try simp only [Act.put, List.setIfInBounds_toArray, List.set_cons_zero, List.set_cons_succ]
  refine wpAnyH_take (i := 7) (oi := { dst := some 55, op := Op.fieldAddr 26 (Operand.tmp 3) 1, type := _, pos := _, after := _, guard := none }) (v := ?_) rfl (by kernel_rfl) (by kernel_rfl) (by kernel_rfl) (fun _ _ _ h => h) (Or.inl ⟨by rfl, ?_⟩) hH ?_
  rotate_left
  · (intro w hSw; (try dsimp only at hSw); go_simp; (try with_reducible rfl))
  try simp only [Act.put, List.setIfInBounds_toArray, List.set_cons_zero, List.set_cons_succ]
  refine wpAnyH_take (i := 8) (oi := { dst := some 56, op := Op.load 21 (Operand.tmp 55), type := _, pos := _, after := _, guard := none }) (v := ?_) rfl (by kernel_rfl) (by kernel_rfl) (by kernel_rfl) (fun _ _ _ h => h) (Or.inl ⟨by rfl, ?_⟩) hH ?_
  rotate_left
  · (intro w hSw; (try dsimp only at hSw); go_simp; (try with_reducible rfl))
  try simp only [Act.put, List.setIfInBounds_toArray, List.set_cons_zero, List.set_cons_succ]
  refine wpAnyH_take (i := 9) (oi := { dst := some 57, op := Op.binOp BinOp.sub 21 (Operand.tmp 54) (Operand.tmp 56) 21, type := _, pos := _, after := _, guard := none }) (v := ?_) rfl (by kernel_rfl) (by kernel_rfl) (by kernel_rfl) (fun _ _ _ h => h) (Or.inl ⟨by rfl, ?_⟩) hH ?_
  rotate_left
  · (intro w hSw; (try dsimp only at hSw); go_simp; (try with_reducible rfl))
  try simp only [Act.put, List.setIfInBounds_toArray, List.set_cons_zero, List.set_cons_succ]
  refine wpAnyH_take (i := 10) (oi := { dst := some 58, op := Op.convert 21 2 (Operand.tmp 57), type := _, pos := _, after := _, guard := none }) (v := ?_) rfl (by kernel_rfl) (by kernel_rfl) (by kernel_rfl) (fun _ _ _ h => h) (Or.inl ⟨by rfl, ?_⟩) hH ?_
  rotate_left
  · (intro w hSw; (try dsimp only at hSw); go_simp; (try with_reducible rfl))
  try simp only [Act.put, List.setIfInBounds_toArray, List.set_cons_zero, List.set_cons_succ]
  refine wpAnyH_ready (rs := [2]) (by kernel_rfl) (by simp) ?_
  refine AllReadyH.cons (o := { dst := some 50, op := Op.call { callee := Callee.value (Operand.func 13), args := #[Operand.tmp 48, Operand.tmp 49], argTypes := #[26, 26] }, type := _, pos := _, after := _, guard := none }) rfl (fun K hK => ?_) AllReadyH.nil
  go_simp
  (with_reducible refine (C3.out _).mono ?_); rintro e v7_2 ⟨rfl, g⟩
  refine hK.out _ _ (by (try dsimp only); (go_split_ands; exact ⟨Kep.all g (by assumption), Kep.all g (by assumption), Kep.all g (by assumption), Kep.all g (by assumption), Kep.all g (by assumption), Kep.all g (by assumption), Kep.all g (by assumption), Kep.all g (by assumption), Kep.all g (by assumption), Kep.all g (by assumption), Kep.all g (by assumption), Kep.all g (by assumption), Kep.all g (by assumption), Kep.all g (by assumption), Kep.all g (by assumption), Kep.all g (by assumption), Kep.all g (by assumption), Kep.all g (by assumption), Kep.all g (by assumption), Kep.all g (by assumption), Kep.all g (by assumption), Kep.all g (by assumption), Kep.all g (by assumption), Kep.all g (by assumption), Kep.all g (by assumption), Kep.all g (by assumption), Kep.all g (by assumption), Kep.all g (by assumption), Kep.all g (by assumption), Kep.all g (by assumption), Kep.all g (by assumption), Kep.all g (by assumption), Kep.all g (by assumption), Kep.all g (by assumption), Kep.all g (by assumption), Kep.all g (by assumption), Kep.all g (by assumption), Kep.all g (by assumption), Kep.all g (by assumption), Kep.all g (by assumption), kep_next (by assumption) g⟩)) (fun hH2 => ?_)
  clear hK K hH; have hH := hH2; clear hH2
  try simp only [Act.put, List.setIfInBounds_toArray, List.set_cons_zero, List.set_cons_succ]
  refine wpAnyH_ready (rs := [5]) (by kernel_rfl) (by simp) ?_
  refine AllReadyH.cons (o := { dst := some 53, op := Op.call { callee := Callee.value (Operand.func 13), args := #[Operand.tmp 51, Operand.tmp 52], argTypes := #[26, 26] }, type := _, pos := _, after := _, guard := none }) rfl (fun K hK => ?_) AllReadyH.nil
  go_simp
  (with_reducible refine (C4.out _).mono ?_); rintro e v7_5 ⟨rfl, g⟩
  refine hK.out _ _ (by (try dsimp only); (go_split_ands; exact ⟨Kep.all g (by assumption), Kep.all g (by assumption), Kep.all g (by assumption), Kep.all g (by assumption), Kep.all g (by assumption), Kep.all g (by assumption), Kep.all g (by assumption), Kep.all g (by assumption), Kep.all g (by assumption), Kep.all g (by assumption), Kep.all g (by assumption), Kep.all g (by assumption), Kep.all g (by assumption), Kep.all g (by assumption), Kep.all g (by assumption), Kep.all g (by assumption), Kep.all g (by assumption), Kep.all g (by assumption), Kep.all g (by assumption), Kep.all g (by assumption), Kep.all g (by assumption), Kep.all g (by assumption), Kep.all g (by assumption), Kep.all g (by assumption), Kep.all g (by assumption), Kep.all g (by assumption), Kep.all g (by assumption), Kep.all g (by assumption), Kep.all g (by assumption), Kep.all g (by assumption), Kep.all g (by assumption), Kep.all g (by assumption), Kep.all g (by assumption), Kep.all g (by assumption), Kep.all g (by assumption), Kep.all g (by assumption), Kep.all g (by assumption), Kep.all g (by assumption), Kep.all g (by assumption), Kep.all g (by assumption), kep_next (by assumption) g⟩)) (fun hH2 => ?_)
  clear hK K hH; have hH := hH2; clear hH2
  try simp only [Act.put, List.setIfInBounds_toArray, List.set_cons_zero, List.set_cons_succ]
  refine wpAnyH_take (i := 11) (oi := { dst := some 59, op := Op.binOp BinOp.sub 2 (Operand.tmp 53) (Operand.tmp 58) 2, type := _, pos := _, after := _, guard := none }) (v := ?_) rfl (by kernel_rfl) (by kernel_rfl) (by kernel_rfl) (fun _ _ _ h => h) (Or.inl ⟨by rfl, ?_⟩) hH ?_
  rotate_left
  · (intro w hSw; (try dsimp only at hSw); go_simp; (try with_reducible rfl))
  try simp only [Act.put, List.setIfInBounds_toArray, List.set_cons_zero, List.set_cons_succ]
  refine wpAnyH_take (i := 12) (oi := { dst := some 60, op := Op.binOp BinOp.neq 2 (Operand.tmp 50) (Operand.tmp 59) 2, type := _, pos := _, after := _, guard := none }) (v := ?_) rfl (by kernel_rfl) (by kernel_rfl) (by kernel_rfl) (fun _ _ _ h => h) (Or.inl ⟨by rfl, ?_⟩) hH ?_
  rotate_left
  · (intro w hSw; (try dsimp only at hSw); go_simp; (try with_reducible rfl))
  try simp only [Act.put, List.setIfInBounds_toArray, List.set_cons_zero, List.set_cons_succ]
  refine wpAnyH_take (i := 13) (oi := { dst := some 61, op := Op.move (Operand.tmp 60), type := _, pos := _, after := _, guard := none }) (v := ?_) rfl (by kernel_rfl) (by kernel_rfl) (by kernel_rfl) (fun _ _ _ h => h) (Or.inl ⟨by rfl, ?_⟩) hH ?_
  rotate_left
  · (intro w hSw; (try dsimp only at hSw); go_simp; (try with_reducible rfl))
  try simp only [Act.put, List.setIfInBounds_toArray, List.set_cons_zero, List.set_cons_succ]
  refine wpAnyH_take (i := 14) (oi := { dst := some 62, op := Op.move (Operand.tmp 9), type := _, pos := _, after := _, guard := some (13, false) }) (v := ?_) rfl (by kernel_rfl) (by kernel_rfl) (by kernel_rfl) (fun _ _ _ h => h) (Or.inl ⟨by rfl, ?_⟩) hH ?_
  rotate_left
  · (intro w hSw; (try dsimp only at hSw); go_simp; (try with_reducible rfl))
  try simp only [Act.put, List.setIfInBounds_toArray, List.set_cons_zero, List.set_cons_succ]
  refine wpAnyH_take (i := 15) (oi := { dst := some 63, op := Op.move (Operand.tmp 62), type := _, pos := _, after := _, guard := some (13, false) }) (v := ?_) rfl (by kernel_rfl) (by kernel_rfl) (by kernel_rfl) (fun _ _ _ h => h) (Or.inl ⟨by rfl, ?_⟩) hH ?_
  rotate_left
  · (intro w hSw; (try dsimp only at hSw); go_simp; (try with_reducible rfl))
  try simp only [Act.put, List.setIfInBounds_toArray, List.set_cons_zero, List.set_cons_succ]
  refine wpAnyH_take (i := 16) (oi := { dst := some 64, op := Op.move (Operand.tmp 11), type := _, pos := _, after := _, guard := some (15, true) }) (v := undef) rfl (by kernel_rfl) (by kernel_rfl) (by kernel_rfl) (fun _ _ _ h => h) (Or.inr ⟨by rfl, rfl⟩) hH ?_
  try simp only [Act.put, List.setIfInBounds_toArray, List.set_cons_zero, List.set_cons_succ]
  refine wpAnyH_take (i := 17) (oi := { dst := some 65, op := Op.unOp UnOp.not 4 (Operand.tmp 64), type := _, pos := _, after := _, guard := some (15, true) }) (v := undef) rfl (by kernel_rfl) (by kernel_rfl) (by kernel_rfl) (fun _ _ _ h => h) (Or.inr ⟨by rfl, rfl⟩) hH ?_
  try simp only [Act.put, List.setIfInBounds_toArray, List.set_cons_zero, List.set_cons_succ]
  refine wpAnyH_take (i := 18) (oi := { dst := some 66, op := Op.pick (Operand.tmp 63) (Operand.tmp 65) (Operand.const (Value.bool false)), type := _, pos := _, after := _, guard := some (13, false) }) (v := ?_) rfl (by kernel_rfl) (by kernel_rfl) (by kernel_rfl) (fun _ _ _ h => h) (Or.inl ⟨by rfl, ?_⟩) hH ?_
  rotate_left
  · (intro w hSw; (try dsimp only at hSw); go_simp; (try with_reducible rfl))
  try simp only [Act.put, List.setIfInBounds_toArray, List.set_cons_zero, List.set_cons_succ]
  refine wpAnyH_take (i := 19) (oi := { dst := some 67, op := Op.pick (Operand.tmp 61) (Operand.const (Value.bool true)) (Operand.tmp 66), type := _, pos := _, after := _, guard := none }) (v := ?_) rfl (by kernel_rfl) (by kernel_rfl) (by kernel_rfl) (fun _ _ _ h => h) (Or.inl ⟨by rfl, ?_⟩) hH ?_
  rotate_left
  · (intro w hSw; (try dsimp only at hSw); go_simp; (try with_reducible rfl))
  try simp only [Act.put, List.setIfInBounds_toArray, List.set_cons_zero, List.set_cons_succ]
  refine wpAnyH_done (by kernel_rfl) ?_ _
  refine NoPanic.normal ?_
  clear x0 x1 x2 x3 x4 x5 x6 x7 x8 x9 y0 y1 y2 y3 y4 y5 y6 y7 y8 y9 c0 c1 c2 c3 c4 c5 c6 c7 c8 c9 e0 e1 e2 e3 e4 f0 f1 f2 f3 f4 gg
  obtain ⟨x0, x1, x2, x3, x4, x5, x6, x7, x8, x9, y0, y1, y2, y3, y4, y5, y6, y7, y8, y9, c0, c1, c2, c3, c4, c5, c6, c7, c8, c9, e0, e1, e2, e3, e4, f0, f1, f2, f3, f4, gg⟩ := hH
  go_wp2_with fail
  go_ret
  exact ⟨rfl, gg⟩
set_option maxRecDepth 100000 in
set_option maxHeartbeats 4000000 in
theorem kgl_t (AW : Hid QAwake) (x y : Bd) (r k9 g8 g9 v0 v1 v2 v3 v4 u0 u1 u4 : Int) (RR : Hid (KRr x y true)) (R2 : Hid (∀ w, Calls Try.prog 9 #[.agg #[.int .u32 x.k, .int .i32 r, .int .i32 x.ax, .int .i32 x.ay, .int .i32 x.m, .int .i32 x.o, .int .i32 x.px, .int .i32 x.py, .int .i32 x.vx, .int .i32 x.vy], .agg #[.int .u32 y.k, .int .i32 y.r, .int .i32 y.ax, .int .i32 y.ay, .int .i32 y.m, .int .i32 y.o, .int .i32 y.px, .int .i32 y.py, .int .i32 y.vx, .int .i32 y.vy]] w fun e w' => e = .returned (.bool true) ∧ Kep w.heap.size w w')) (C1 : Hid (∀ w, Calls Try.prog 10 #[.agg #[.int .u32 x.k, .int .i32 x.r, .int .i32 x.ax, .int .i32 x.ay, .int .i32 x.m, .int .i32 x.o, .int .i32 x.px, .int .i32 x.py, .int .i32 x.vx, .int .i32 x.vy], .agg #[.int .u32 y.k, .int .i32 y.r, .int .i32 y.ax, .int .i32 y.ay, .int .i32 y.m, .int .i32 y.o, .int .i32 y.px, .int .i32 y.py, .int .i32 y.vx, .int .i32 y.vy]] w fun e w' => e = .returned (.tuple #[.agg #[.int .u32 v0, .int .u32 v1, .int .i32 v2, .int .i32 v3, .int .i32 v4], .bool true]) ∧ Kep w.heap.size w w')) (C2 : Hid (∀ w, Calls Try.prog 10 #[.agg #[.int .u32 x.k, .int .i32 r, .int .i32 x.ax, .int .i32 x.ay, .int .i32 x.m, .int .i32 x.o, .int .i32 x.px, .int .i32 x.py, .int .i32 x.vx, .int .i32 x.vy], .agg #[.int .u32 y.k, .int .i32 y.r, .int .i32 y.ax, .int .i32 y.ay, .int .i32 y.m, .int .i32 y.o, .int .i32 y.px, .int .i32 y.py, .int .i32 y.vx, .int .i32 y.vy]] w fun e w' => e = .returned (.tuple #[.agg #[.int .u32 u0, .int .u32 u1, .int .i32 v2, .int .i32 v3, .int .i32 u4], .bool true]) ∧ Kep w.heap.size w w')) (C3 : Hid (∀ w, Calls Try.prog 13 #[.agg #[.int .u32 x.k, .int .i32 r, .int .i32 x.ax, .int .i32 x.ay, .int .i32 x.m, .int .i32 x.o, .int .i32 x.px, .int .i32 x.py, .int .i32 x.vx, .int .i32 x.vy], .agg #[.int .u32 y.k, .int .i32 y.r, .int .i32 y.ax, .int .i32 y.ay, .int .i32 y.m, .int .i32 y.o, .int .i32 y.px, .int .i32 y.py, .int .i32 y.vx, .int .i32 y.vy]] w fun e w' => e = .returned (.int .i64 g8) ∧ Kep w.heap.size w w')) (C4 : Hid (∀ w, Calls Try.prog 13 #[.agg #[.int .u32 x.k, .int .i32 x.r, .int .i32 x.ax, .int .i32 x.ay, .int .i32 x.m, .int .i32 x.o, .int .i32 x.px, .int .i32 x.py, .int .i32 x.vx, .int .i32 x.vy], .agg #[.int .u32 y.k, .int .i32 y.r, .int .i32 y.ax, .int .i32 y.ay, .int .i32 y.m, .int .i32 y.o, .int .i32 y.px, .int .i32 y.py, .int .i32 y.vx, .int .i32 y.vy]] w fun e w' => e = .returned (.int .i64 g9) ∧ Kep w.heap.size w w')) (q0 : decide (r < x.r) = false) (a1 : IntKind.i32.wrap (r - x.r) = k9) (a2 : IntKind.i64.wrap k9 = k9) (a3 : IntKind.i64.wrap (g9 - k9) = g8) (a4 : IntKind.i32.wrap (u4 - v4) = k9) (w : World) : Calls Try.prog 7 #[.agg #[.int .u32 x.k, .int .i32 x.r, .int .i32 x.ax, .int .i32 x.ay, .int .i32 x.m, .int .i32 x.o, .int .i32 x.px, .int .i32 x.py, .int .i32 x.vx, .int .i32 x.vy], .agg #[.int .u32 y.k, .int .i32 y.r, .int .i32 y.ax, .int .i32 y.ay, .int .i32 y.m, .int .i32 y.o, .int .i32 y.px, .int .i32 y.py, .int .i32 y.vx, .int .i32 y.vy], .int .i32 r] w fun e w' => e = .returned (.bool true) ∧ Kep w.heap.size w w' := by
  have eg : (g8 != g8) = false := by simp
  have ek : (k9 == k9) = true := by simp
  have vv := fun w => vec_cmp v2 v3 v2 v3 true (by simp) w
  go_enter Try.func7, Try.ntmps7
  go_wp2_with (first
    | ((with_reducible refine (AW.out _).mono ?_); rintro e w1 ⟨rfl, g1⟩
       have x0 := Kep.all g1 (a := ⟨w.heap.size, 0, none⟩) (v := .int .u32 x.k) (by (repeat (first | rw [World.cell?_drew] | rw [World.cell?_alloc_past _ _ _ (by first | (simp; done) | (simp; omega))])); rw [World.cell?_alloc_at _ _ _ _ (by simp)]; rfl)
       have x1 := Kep.all g1 (a := ⟨w.heap.size, 1, none⟩) (v := .int .i32 x.r) (by (repeat (first | rw [World.cell?_drew] | rw [World.cell?_alloc_past _ _ _ (by first | (simp; done) | (simp; omega))])); rw [World.cell?_alloc_at _ _ _ _ (by simp)]; rfl)
       have x2 := Kep.all g1 (a := ⟨w.heap.size, 2, none⟩) (v := .int .i32 x.ax) (by (repeat (first | rw [World.cell?_drew] | rw [World.cell?_alloc_past _ _ _ (by first | (simp; done) | (simp; omega))])); rw [World.cell?_alloc_at _ _ _ _ (by simp)]; rfl)
       have x3 := Kep.all g1 (a := ⟨w.heap.size, 3, none⟩) (v := .int .i32 x.ay) (by (repeat (first | rw [World.cell?_drew] | rw [World.cell?_alloc_past _ _ _ (by first | (simp; done) | (simp; omega))])); rw [World.cell?_alloc_at _ _ _ _ (by simp)]; rfl)
       have x4 := Kep.all g1 (a := ⟨w.heap.size, 4, none⟩) (v := .int .i32 x.m) (by (repeat (first | rw [World.cell?_drew] | rw [World.cell?_alloc_past _ _ _ (by first | (simp; done) | (simp; omega))])); rw [World.cell?_alloc_at _ _ _ _ (by simp)]; rfl)
       have x5 := Kep.all g1 (a := ⟨w.heap.size, 5, none⟩) (v := .int .i32 x.o) (by (repeat (first | rw [World.cell?_drew] | rw [World.cell?_alloc_past _ _ _ (by first | (simp; done) | (simp; omega))])); rw [World.cell?_alloc_at _ _ _ _ (by simp)]; rfl)
       have x6 := Kep.all g1 (a := ⟨w.heap.size, 6, none⟩) (v := .int .i32 x.px) (by (repeat (first | rw [World.cell?_drew] | rw [World.cell?_alloc_past _ _ _ (by first | (simp; done) | (simp; omega))])); rw [World.cell?_alloc_at _ _ _ _ (by simp)]; rfl)
       have x7 := Kep.all g1 (a := ⟨w.heap.size, 7, none⟩) (v := .int .i32 x.py) (by (repeat (first | rw [World.cell?_drew] | rw [World.cell?_alloc_past _ _ _ (by first | (simp; done) | (simp; omega))])); rw [World.cell?_alloc_at _ _ _ _ (by simp)]; rfl)
       have x8 := Kep.all g1 (a := ⟨w.heap.size, 8, none⟩) (v := .int .i32 x.vx) (by (repeat (first | rw [World.cell?_drew] | rw [World.cell?_alloc_past _ _ _ (by first | (simp; done) | (simp; omega))])); rw [World.cell?_alloc_at _ _ _ _ (by simp)]; rfl)
       have x9 := Kep.all g1 (a := ⟨w.heap.size, 9, none⟩) (v := .int .i32 x.vy) (by (repeat (first | rw [World.cell?_drew] | rw [World.cell?_alloc_past _ _ _ (by first | (simp; done) | (simp; omega))])); rw [World.cell?_alloc_at _ _ _ _ (by simp)]; rfl)
       have y0 := Kep.all g1 (a := ⟨w.heap.size + 1, 0, none⟩) (v := .int .u32 y.k) (by (repeat (first | rw [World.cell?_drew] | rw [World.cell?_alloc_past _ _ _ (by first | (simp; done) | (simp; omega))])); rw [World.cell?_alloc_at _ _ _ _ (by simp)]; rfl)
       have y1 := Kep.all g1 (a := ⟨w.heap.size + 1, 1, none⟩) (v := .int .i32 y.r) (by (repeat (first | rw [World.cell?_drew] | rw [World.cell?_alloc_past _ _ _ (by first | (simp; done) | (simp; omega))])); rw [World.cell?_alloc_at _ _ _ _ (by simp)]; rfl)
       have y2 := Kep.all g1 (a := ⟨w.heap.size + 1, 2, none⟩) (v := .int .i32 y.ax) (by (repeat (first | rw [World.cell?_drew] | rw [World.cell?_alloc_past _ _ _ (by first | (simp; done) | (simp; omega))])); rw [World.cell?_alloc_at _ _ _ _ (by simp)]; rfl)
       have y3 := Kep.all g1 (a := ⟨w.heap.size + 1, 3, none⟩) (v := .int .i32 y.ay) (by (repeat (first | rw [World.cell?_drew] | rw [World.cell?_alloc_past _ _ _ (by first | (simp; done) | (simp; omega))])); rw [World.cell?_alloc_at _ _ _ _ (by simp)]; rfl)
       have y4 := Kep.all g1 (a := ⟨w.heap.size + 1, 4, none⟩) (v := .int .i32 y.m) (by (repeat (first | rw [World.cell?_drew] | rw [World.cell?_alloc_past _ _ _ (by first | (simp; done) | (simp; omega))])); rw [World.cell?_alloc_at _ _ _ _ (by simp)]; rfl)
       have y5 := Kep.all g1 (a := ⟨w.heap.size + 1, 5, none⟩) (v := .int .i32 y.o) (by (repeat (first | rw [World.cell?_drew] | rw [World.cell?_alloc_past _ _ _ (by first | (simp; done) | (simp; omega))])); rw [World.cell?_alloc_at _ _ _ _ (by simp)]; rfl)
       have y6 := Kep.all g1 (a := ⟨w.heap.size + 1, 6, none⟩) (v := .int .i32 y.px) (by (repeat (first | rw [World.cell?_drew] | rw [World.cell?_alloc_past _ _ _ (by first | (simp; done) | (simp; omega))])); rw [World.cell?_alloc_at _ _ _ _ (by simp)]; rfl)
       have y7 := Kep.all g1 (a := ⟨w.heap.size + 1, 7, none⟩) (v := .int .i32 y.py) (by (repeat (first | rw [World.cell?_drew] | rw [World.cell?_alloc_past _ _ _ (by first | (simp; done) | (simp; omega))])); rw [World.cell?_alloc_at _ _ _ _ (by simp)]; rfl)
       have y8 := Kep.all g1 (a := ⟨w.heap.size + 1, 8, none⟩) (v := .int .i32 y.vx) (by (repeat (first | rw [World.cell?_drew] | rw [World.cell?_alloc_past _ _ _ (by first | (simp; done) | (simp; omega))])); rw [World.cell?_alloc_at _ _ _ _ (by simp)]; rfl)
       have y9 := Kep.all g1 (a := ⟨w.heap.size + 1, 9, none⟩) (v := .int .i32 y.vy) (by (repeat (first | rw [World.cell?_drew] | rw [World.cell?_alloc_past _ _ _ (by first | (simp; done) | (simp; omega))])); rw [World.cell?_alloc_at _ _ _ _ (by simp)]; rfl)
       have c0 := Kep.all g1 (a := ⟨w.heap.size + 1 + 1, 0, none⟩) (v := .int .u32 x.k) (by (repeat (first | rw [World.cell?_drew] | rw [World.cell?_alloc_past _ _ _ (by first | (simp; done) | (simp; omega))])); rw [World.cell?_alloc_at _ _ _ _ (by simp)]; rfl)
       have c1 := Kep.all g1 (a := ⟨w.heap.size + 1 + 1, 1, none⟩) (v := .int .i32 r) (by (repeat (first | rw [World.cell?_drew] | rw [World.cell?_alloc_past _ _ _ (by first | (simp; done) | (simp; omega))])); rw [World.cell?_alloc_at _ _ _ _ (by simp)]; rfl)
       have c2 := Kep.all g1 (a := ⟨w.heap.size + 1 + 1, 2, none⟩) (v := .int .i32 x.ax) (by (repeat (first | rw [World.cell?_drew] | rw [World.cell?_alloc_past _ _ _ (by first | (simp; done) | (simp; omega))])); rw [World.cell?_alloc_at _ _ _ _ (by simp)]; rfl)
       have c3 := Kep.all g1 (a := ⟨w.heap.size + 1 + 1, 3, none⟩) (v := .int .i32 x.ay) (by (repeat (first | rw [World.cell?_drew] | rw [World.cell?_alloc_past _ _ _ (by first | (simp; done) | (simp; omega))])); rw [World.cell?_alloc_at _ _ _ _ (by simp)]; rfl)
       have c4 := Kep.all g1 (a := ⟨w.heap.size + 1 + 1, 4, none⟩) (v := .int .i32 x.m) (by (repeat (first | rw [World.cell?_drew] | rw [World.cell?_alloc_past _ _ _ (by first | (simp; done) | (simp; omega))])); rw [World.cell?_alloc_at _ _ _ _ (by simp)]; rfl)
       have c5 := Kep.all g1 (a := ⟨w.heap.size + 1 + 1, 5, none⟩) (v := .int .i32 x.o) (by (repeat (first | rw [World.cell?_drew] | rw [World.cell?_alloc_past _ _ _ (by first | (simp; done) | (simp; omega))])); rw [World.cell?_alloc_at _ _ _ _ (by simp)]; rfl)
       have c6 := Kep.all g1 (a := ⟨w.heap.size + 1 + 1, 6, none⟩) (v := .int .i32 x.px) (by (repeat (first | rw [World.cell?_drew] | rw [World.cell?_alloc_past _ _ _ (by first | (simp; done) | (simp; omega))])); rw [World.cell?_alloc_at _ _ _ _ (by simp)]; rfl)
       have c7 := Kep.all g1 (a := ⟨w.heap.size + 1 + 1, 7, none⟩) (v := .int .i32 x.py) (by (repeat (first | rw [World.cell?_drew] | rw [World.cell?_alloc_past _ _ _ (by first | (simp; done) | (simp; omega))])); rw [World.cell?_alloc_at _ _ _ _ (by simp)]; rfl)
       have c8 := Kep.all g1 (a := ⟨w.heap.size + 1 + 1, 8, none⟩) (v := .int .i32 x.vx) (by (repeat (first | rw [World.cell?_drew] | rw [World.cell?_alloc_past _ _ _ (by first | (simp; done) | (simp; omega))])); rw [World.cell?_alloc_at _ _ _ _ (by simp)]; rfl)
       have c9 := Kep.all g1 (a := ⟨w.heap.size + 1 + 1, 9, none⟩) (v := .int .i32 x.vy) (by (repeat (first | rw [World.cell?_drew] | rw [World.cell?_alloc_past _ _ _ (by first | (simp; done) | (simp; omega))])); rw [World.cell?_alloc_at _ _ _ _ (by simp)]; rfl)
       have gg := kep_next (kep_more (kep_more (kep_more (Kep.refl _ _) _) _) _) g1
       have zx_w1 : w.heap.size < w1.heap.size := World.block_lt_of_cell? _ _ x0
       have zy_w1 : w.heap.size + 1 < w1.heap.size := World.block_lt_of_cell? _ _ y0
       have zc_w1 : w.heap.size + 1 + 1 < w1.heap.size := World.block_lt_of_cell? _ _ c0)
    | ((with_reducible refine (RR.out _).mono ?_); rintro e w2 ⟨rfl, g2⟩
       replace x0 := Kep.all g2 (a := ⟨w.heap.size, 0, none⟩) (v := .int .u32 x.k) x0
       replace x1 := Kep.all g2 (a := ⟨w.heap.size, 1, none⟩) (v := .int .i32 x.r) x1
       replace x2 := Kep.all g2 (a := ⟨w.heap.size, 2, none⟩) (v := .int .i32 x.ax) x2
       replace x3 := Kep.all g2 (a := ⟨w.heap.size, 3, none⟩) (v := .int .i32 x.ay) x3
       replace x4 := Kep.all g2 (a := ⟨w.heap.size, 4, none⟩) (v := .int .i32 x.m) x4
       replace x5 := Kep.all g2 (a := ⟨w.heap.size, 5, none⟩) (v := .int .i32 x.o) x5
       replace x6 := Kep.all g2 (a := ⟨w.heap.size, 6, none⟩) (v := .int .i32 x.px) x6
       replace x7 := Kep.all g2 (a := ⟨w.heap.size, 7, none⟩) (v := .int .i32 x.py) x7
       replace x8 := Kep.all g2 (a := ⟨w.heap.size, 8, none⟩) (v := .int .i32 x.vx) x8
       replace x9 := Kep.all g2 (a := ⟨w.heap.size, 9, none⟩) (v := .int .i32 x.vy) x9
       replace y0 := Kep.all g2 (a := ⟨w.heap.size + 1, 0, none⟩) (v := .int .u32 y.k) y0
       replace y1 := Kep.all g2 (a := ⟨w.heap.size + 1, 1, none⟩) (v := .int .i32 y.r) y1
       replace y2 := Kep.all g2 (a := ⟨w.heap.size + 1, 2, none⟩) (v := .int .i32 y.ax) y2
       replace y3 := Kep.all g2 (a := ⟨w.heap.size + 1, 3, none⟩) (v := .int .i32 y.ay) y3
       replace y4 := Kep.all g2 (a := ⟨w.heap.size + 1, 4, none⟩) (v := .int .i32 y.m) y4
       replace y5 := Kep.all g2 (a := ⟨w.heap.size + 1, 5, none⟩) (v := .int .i32 y.o) y5
       replace y6 := Kep.all g2 (a := ⟨w.heap.size + 1, 6, none⟩) (v := .int .i32 y.px) y6
       replace y7 := Kep.all g2 (a := ⟨w.heap.size + 1, 7, none⟩) (v := .int .i32 y.py) y7
       replace y8 := Kep.all g2 (a := ⟨w.heap.size + 1, 8, none⟩) (v := .int .i32 y.vx) y8
       replace y9 := Kep.all g2 (a := ⟨w.heap.size + 1, 9, none⟩) (v := .int .i32 y.vy) y9
       replace c0 := Kep.all g2 (a := ⟨w.heap.size + 1 + 1, 0, none⟩) (v := .int .u32 x.k) c0
       replace c1 := Kep.all g2 (a := ⟨w.heap.size + 1 + 1, 1, none⟩) (v := .int .i32 r) c1
       replace c2 := Kep.all g2 (a := ⟨w.heap.size + 1 + 1, 2, none⟩) (v := .int .i32 x.ax) c2
       replace c3 := Kep.all g2 (a := ⟨w.heap.size + 1 + 1, 3, none⟩) (v := .int .i32 x.ay) c3
       replace c4 := Kep.all g2 (a := ⟨w.heap.size + 1 + 1, 4, none⟩) (v := .int .i32 x.m) c4
       replace c5 := Kep.all g2 (a := ⟨w.heap.size + 1 + 1, 5, none⟩) (v := .int .i32 x.o) c5
       replace c6 := Kep.all g2 (a := ⟨w.heap.size + 1 + 1, 6, none⟩) (v := .int .i32 x.px) c6
       replace c7 := Kep.all g2 (a := ⟨w.heap.size + 1 + 1, 7, none⟩) (v := .int .i32 x.py) c7
       replace c8 := Kep.all g2 (a := ⟨w.heap.size + 1 + 1, 8, none⟩) (v := .int .i32 x.vx) c8
       replace c9 := Kep.all g2 (a := ⟨w.heap.size + 1 + 1, 9, none⟩) (v := .int .i32 x.vy) c9
       replace gg := kep_next gg g2
       have zx_w2 : w.heap.size < w2.heap.size := World.block_lt_of_cell? _ _ x0
       have zy_w2 : w.heap.size + 1 < w2.heap.size := World.block_lt_of_cell? _ _ y0
       have zc_w2 : w.heap.size + 1 + 1 < w2.heap.size := World.block_lt_of_cell? _ _ c0)
    | ((with_reducible refine (R2.out _).mono ?_); rintro e w3 ⟨rfl, g3⟩
       replace x0 := Kep.all g3 (a := ⟨w.heap.size, 0, none⟩) (v := .int .u32 x.k) x0
       replace x1 := Kep.all g3 (a := ⟨w.heap.size, 1, none⟩) (v := .int .i32 x.r) x1
       replace x2 := Kep.all g3 (a := ⟨w.heap.size, 2, none⟩) (v := .int .i32 x.ax) x2
       replace x3 := Kep.all g3 (a := ⟨w.heap.size, 3, none⟩) (v := .int .i32 x.ay) x3
       replace x4 := Kep.all g3 (a := ⟨w.heap.size, 4, none⟩) (v := .int .i32 x.m) x4
       replace x5 := Kep.all g3 (a := ⟨w.heap.size, 5, none⟩) (v := .int .i32 x.o) x5
       replace x6 := Kep.all g3 (a := ⟨w.heap.size, 6, none⟩) (v := .int .i32 x.px) x6
       replace x7 := Kep.all g3 (a := ⟨w.heap.size, 7, none⟩) (v := .int .i32 x.py) x7
       replace x8 := Kep.all g3 (a := ⟨w.heap.size, 8, none⟩) (v := .int .i32 x.vx) x8
       replace x9 := Kep.all g3 (a := ⟨w.heap.size, 9, none⟩) (v := .int .i32 x.vy) x9
       replace y0 := Kep.all g3 (a := ⟨w.heap.size + 1, 0, none⟩) (v := .int .u32 y.k) y0
       replace y1 := Kep.all g3 (a := ⟨w.heap.size + 1, 1, none⟩) (v := .int .i32 y.r) y1
       replace y2 := Kep.all g3 (a := ⟨w.heap.size + 1, 2, none⟩) (v := .int .i32 y.ax) y2
       replace y3 := Kep.all g3 (a := ⟨w.heap.size + 1, 3, none⟩) (v := .int .i32 y.ay) y3
       replace y4 := Kep.all g3 (a := ⟨w.heap.size + 1, 4, none⟩) (v := .int .i32 y.m) y4
       replace y5 := Kep.all g3 (a := ⟨w.heap.size + 1, 5, none⟩) (v := .int .i32 y.o) y5
       replace y6 := Kep.all g3 (a := ⟨w.heap.size + 1, 6, none⟩) (v := .int .i32 y.px) y6
       replace y7 := Kep.all g3 (a := ⟨w.heap.size + 1, 7, none⟩) (v := .int .i32 y.py) y7
       replace y8 := Kep.all g3 (a := ⟨w.heap.size + 1, 8, none⟩) (v := .int .i32 y.vx) y8
       replace y9 := Kep.all g3 (a := ⟨w.heap.size + 1, 9, none⟩) (v := .int .i32 y.vy) y9
       replace c0 := Kep.all g3 (a := ⟨w.heap.size + 1 + 1, 0, none⟩) (v := .int .u32 x.k) c0
       replace c1 := Kep.all g3 (a := ⟨w.heap.size + 1 + 1, 1, none⟩) (v := .int .i32 r) c1
       replace c2 := Kep.all g3 (a := ⟨w.heap.size + 1 + 1, 2, none⟩) (v := .int .i32 x.ax) c2
       replace c3 := Kep.all g3 (a := ⟨w.heap.size + 1 + 1, 3, none⟩) (v := .int .i32 x.ay) c3
       replace c4 := Kep.all g3 (a := ⟨w.heap.size + 1 + 1, 4, none⟩) (v := .int .i32 x.m) c4
       replace c5 := Kep.all g3 (a := ⟨w.heap.size + 1 + 1, 5, none⟩) (v := .int .i32 x.o) c5
       replace c6 := Kep.all g3 (a := ⟨w.heap.size + 1 + 1, 6, none⟩) (v := .int .i32 x.px) c6
       replace c7 := Kep.all g3 (a := ⟨w.heap.size + 1 + 1, 7, none⟩) (v := .int .i32 x.py) c7
       replace c8 := Kep.all g3 (a := ⟨w.heap.size + 1 + 1, 8, none⟩) (v := .int .i32 x.vx) c8
       replace c9 := Kep.all g3 (a := ⟨w.heap.size + 1 + 1, 9, none⟩) (v := .int .i32 x.vy) c9
       replace gg := kep_next gg g3
       have zx_w3 : w.heap.size < w3.heap.size := World.block_lt_of_cell? _ _ x0
       have zy_w3 : w.heap.size + 1 < w3.heap.size := World.block_lt_of_cell? _ _ y0
       have zc_w3 : w.heap.size + 1 + 1 < w3.heap.size := World.block_lt_of_cell? _ _ c0)
    | ((with_reducible refine (C1.out _).mono ?_); rintro e w4 ⟨rfl, g4⟩
       replace x0 := Kep.all g4 (a := ⟨w.heap.size, 0, none⟩) (v := .int .u32 x.k) x0
       replace x1 := Kep.all g4 (a := ⟨w.heap.size, 1, none⟩) (v := .int .i32 x.r) x1
       replace x2 := Kep.all g4 (a := ⟨w.heap.size, 2, none⟩) (v := .int .i32 x.ax) x2
       replace x3 := Kep.all g4 (a := ⟨w.heap.size, 3, none⟩) (v := .int .i32 x.ay) x3
       replace x4 := Kep.all g4 (a := ⟨w.heap.size, 4, none⟩) (v := .int .i32 x.m) x4
       replace x5 := Kep.all g4 (a := ⟨w.heap.size, 5, none⟩) (v := .int .i32 x.o) x5
       replace x6 := Kep.all g4 (a := ⟨w.heap.size, 6, none⟩) (v := .int .i32 x.px) x6
       replace x7 := Kep.all g4 (a := ⟨w.heap.size, 7, none⟩) (v := .int .i32 x.py) x7
       replace x8 := Kep.all g4 (a := ⟨w.heap.size, 8, none⟩) (v := .int .i32 x.vx) x8
       replace x9 := Kep.all g4 (a := ⟨w.heap.size, 9, none⟩) (v := .int .i32 x.vy) x9
       replace y0 := Kep.all g4 (a := ⟨w.heap.size + 1, 0, none⟩) (v := .int .u32 y.k) y0
       replace y1 := Kep.all g4 (a := ⟨w.heap.size + 1, 1, none⟩) (v := .int .i32 y.r) y1
       replace y2 := Kep.all g4 (a := ⟨w.heap.size + 1, 2, none⟩) (v := .int .i32 y.ax) y2
       replace y3 := Kep.all g4 (a := ⟨w.heap.size + 1, 3, none⟩) (v := .int .i32 y.ay) y3
       replace y4 := Kep.all g4 (a := ⟨w.heap.size + 1, 4, none⟩) (v := .int .i32 y.m) y4
       replace y5 := Kep.all g4 (a := ⟨w.heap.size + 1, 5, none⟩) (v := .int .i32 y.o) y5
       replace y6 := Kep.all g4 (a := ⟨w.heap.size + 1, 6, none⟩) (v := .int .i32 y.px) y6
       replace y7 := Kep.all g4 (a := ⟨w.heap.size + 1, 7, none⟩) (v := .int .i32 y.py) y7
       replace y8 := Kep.all g4 (a := ⟨w.heap.size + 1, 8, none⟩) (v := .int .i32 y.vx) y8
       replace y9 := Kep.all g4 (a := ⟨w.heap.size + 1, 9, none⟩) (v := .int .i32 y.vy) y9
       replace c0 := Kep.all g4 (a := ⟨w.heap.size + 1 + 1, 0, none⟩) (v := .int .u32 x.k) c0
       replace c1 := Kep.all g4 (a := ⟨w.heap.size + 1 + 1, 1, none⟩) (v := .int .i32 r) c1
       replace c2 := Kep.all g4 (a := ⟨w.heap.size + 1 + 1, 2, none⟩) (v := .int .i32 x.ax) c2
       replace c3 := Kep.all g4 (a := ⟨w.heap.size + 1 + 1, 3, none⟩) (v := .int .i32 x.ay) c3
       replace c4 := Kep.all g4 (a := ⟨w.heap.size + 1 + 1, 4, none⟩) (v := .int .i32 x.m) c4
       replace c5 := Kep.all g4 (a := ⟨w.heap.size + 1 + 1, 5, none⟩) (v := .int .i32 x.o) c5
       replace c6 := Kep.all g4 (a := ⟨w.heap.size + 1 + 1, 6, none⟩) (v := .int .i32 x.px) c6
       replace c7 := Kep.all g4 (a := ⟨w.heap.size + 1 + 1, 7, none⟩) (v := .int .i32 x.py) c7
       replace c8 := Kep.all g4 (a := ⟨w.heap.size + 1 + 1, 8, none⟩) (v := .int .i32 x.vx) c8
       replace c9 := Kep.all g4 (a := ⟨w.heap.size + 1 + 1, 9, none⟩) (v := .int .i32 x.vy) c9
       replace gg := kep_next gg g4
       have zx_w4 : w.heap.size < w4.heap.size := World.block_lt_of_cell? _ _ x0
       have zy_w4 : w.heap.size + 1 < w4.heap.size := World.block_lt_of_cell? _ _ y0
       have zc_w4 : w.heap.size + 1 + 1 < w4.heap.size := World.block_lt_of_cell? _ _ c0)
    | ((with_reducible refine (C2.out _).mono ?_); rintro e w5 ⟨rfl, g5⟩
       replace x0 := Kep.all g5 (a := ⟨w.heap.size, 0, none⟩) (v := .int .u32 x.k) (Kep.all (kep_more (Kep.refl _ _) _) x0)
       replace x1 := Kep.all g5 (a := ⟨w.heap.size, 1, none⟩) (v := .int .i32 x.r) (Kep.all (kep_more (Kep.refl _ _) _) x1)
       replace x2 := Kep.all g5 (a := ⟨w.heap.size, 2, none⟩) (v := .int .i32 x.ax) (Kep.all (kep_more (Kep.refl _ _) _) x2)
       replace x3 := Kep.all g5 (a := ⟨w.heap.size, 3, none⟩) (v := .int .i32 x.ay) (Kep.all (kep_more (Kep.refl _ _) _) x3)
       replace x4 := Kep.all g5 (a := ⟨w.heap.size, 4, none⟩) (v := .int .i32 x.m) (Kep.all (kep_more (Kep.refl _ _) _) x4)
       replace x5 := Kep.all g5 (a := ⟨w.heap.size, 5, none⟩) (v := .int .i32 x.o) (Kep.all (kep_more (Kep.refl _ _) _) x5)
       replace x6 := Kep.all g5 (a := ⟨w.heap.size, 6, none⟩) (v := .int .i32 x.px) (Kep.all (kep_more (Kep.refl _ _) _) x6)
       replace x7 := Kep.all g5 (a := ⟨w.heap.size, 7, none⟩) (v := .int .i32 x.py) (Kep.all (kep_more (Kep.refl _ _) _) x7)
       replace x8 := Kep.all g5 (a := ⟨w.heap.size, 8, none⟩) (v := .int .i32 x.vx) (Kep.all (kep_more (Kep.refl _ _) _) x8)
       replace x9 := Kep.all g5 (a := ⟨w.heap.size, 9, none⟩) (v := .int .i32 x.vy) (Kep.all (kep_more (Kep.refl _ _) _) x9)
       replace y0 := Kep.all g5 (a := ⟨w.heap.size + 1, 0, none⟩) (v := .int .u32 y.k) (Kep.all (kep_more (Kep.refl _ _) _) y0)
       replace y1 := Kep.all g5 (a := ⟨w.heap.size + 1, 1, none⟩) (v := .int .i32 y.r) (Kep.all (kep_more (Kep.refl _ _) _) y1)
       replace y2 := Kep.all g5 (a := ⟨w.heap.size + 1, 2, none⟩) (v := .int .i32 y.ax) (Kep.all (kep_more (Kep.refl _ _) _) y2)
       replace y3 := Kep.all g5 (a := ⟨w.heap.size + 1, 3, none⟩) (v := .int .i32 y.ay) (Kep.all (kep_more (Kep.refl _ _) _) y3)
       replace y4 := Kep.all g5 (a := ⟨w.heap.size + 1, 4, none⟩) (v := .int .i32 y.m) (Kep.all (kep_more (Kep.refl _ _) _) y4)
       replace y5 := Kep.all g5 (a := ⟨w.heap.size + 1, 5, none⟩) (v := .int .i32 y.o) (Kep.all (kep_more (Kep.refl _ _) _) y5)
       replace y6 := Kep.all g5 (a := ⟨w.heap.size + 1, 6, none⟩) (v := .int .i32 y.px) (Kep.all (kep_more (Kep.refl _ _) _) y6)
       replace y7 := Kep.all g5 (a := ⟨w.heap.size + 1, 7, none⟩) (v := .int .i32 y.py) (Kep.all (kep_more (Kep.refl _ _) _) y7)
       replace y8 := Kep.all g5 (a := ⟨w.heap.size + 1, 8, none⟩) (v := .int .i32 y.vx) (Kep.all (kep_more (Kep.refl _ _) _) y8)
       replace y9 := Kep.all g5 (a := ⟨w.heap.size + 1, 9, none⟩) (v := .int .i32 y.vy) (Kep.all (kep_more (Kep.refl _ _) _) y9)
       replace c0 := Kep.all g5 (a := ⟨w.heap.size + 1 + 1, 0, none⟩) (v := .int .u32 x.k) (Kep.all (kep_more (Kep.refl _ _) _) c0)
       replace c1 := Kep.all g5 (a := ⟨w.heap.size + 1 + 1, 1, none⟩) (v := .int .i32 r) (Kep.all (kep_more (Kep.refl _ _) _) c1)
       replace c2 := Kep.all g5 (a := ⟨w.heap.size + 1 + 1, 2, none⟩) (v := .int .i32 x.ax) (Kep.all (kep_more (Kep.refl _ _) _) c2)
       replace c3 := Kep.all g5 (a := ⟨w.heap.size + 1 + 1, 3, none⟩) (v := .int .i32 x.ay) (Kep.all (kep_more (Kep.refl _ _) _) c3)
       replace c4 := Kep.all g5 (a := ⟨w.heap.size + 1 + 1, 4, none⟩) (v := .int .i32 x.m) (Kep.all (kep_more (Kep.refl _ _) _) c4)
       replace c5 := Kep.all g5 (a := ⟨w.heap.size + 1 + 1, 5, none⟩) (v := .int .i32 x.o) (Kep.all (kep_more (Kep.refl _ _) _) c5)
       replace c6 := Kep.all g5 (a := ⟨w.heap.size + 1 + 1, 6, none⟩) (v := .int .i32 x.px) (Kep.all (kep_more (Kep.refl _ _) _) c6)
       replace c7 := Kep.all g5 (a := ⟨w.heap.size + 1 + 1, 7, none⟩) (v := .int .i32 x.py) (Kep.all (kep_more (Kep.refl _ _) _) c7)
       replace c8 := Kep.all g5 (a := ⟨w.heap.size + 1 + 1, 8, none⟩) (v := .int .i32 x.vx) (Kep.all (kep_more (Kep.refl _ _) _) c8)
       replace c9 := Kep.all g5 (a := ⟨w.heap.size + 1 + 1, 9, none⟩) (v := .int .i32 x.vy) (Kep.all (kep_more (Kep.refl _ _) _) c9)
       have e0 := Kep.all g5 (a := ⟨w4.heap.size, 0, none⟩) (v := .int .u32 v0) (by (repeat (first | rw [World.cell?_drew] | rw [World.cell?_alloc_past _ _ _ (by first | (simp; done) | (simp; omega))])); rw [World.cell?_alloc_at _ _ _ _ (by simp)]; rfl)
       have e1 := Kep.all g5 (a := ⟨w4.heap.size, 1, none⟩) (v := .int .u32 v1) (by (repeat (first | rw [World.cell?_drew] | rw [World.cell?_alloc_past _ _ _ (by first | (simp; done) | (simp; omega))])); rw [World.cell?_alloc_at _ _ _ _ (by simp)]; rfl)
       have e2 := Kep.all g5 (a := ⟨w4.heap.size, 2, none⟩) (v := .int .i32 v2) (by (repeat (first | rw [World.cell?_drew] | rw [World.cell?_alloc_past _ _ _ (by first | (simp; done) | (simp; omega))])); rw [World.cell?_alloc_at _ _ _ _ (by simp)]; rfl)
       have e3 := Kep.all g5 (a := ⟨w4.heap.size, 3, none⟩) (v := .int .i32 v3) (by (repeat (first | rw [World.cell?_drew] | rw [World.cell?_alloc_past _ _ _ (by first | (simp; done) | (simp; omega))])); rw [World.cell?_alloc_at _ _ _ _ (by simp)]; rfl)
       have e4 := Kep.all g5 (a := ⟨w4.heap.size, 4, none⟩) (v := .int .i32 v4) (by (repeat (first | rw [World.cell?_drew] | rw [World.cell?_alloc_past _ _ _ (by first | (simp; done) | (simp; omega))])); rw [World.cell?_alloc_at _ _ _ _ (by simp)]; rfl)
       replace gg := kep_next (kep_more gg _) g5
       have zx_w5 : w.heap.size < w5.heap.size := World.block_lt_of_cell? _ _ x0
       have zy_w5 : w.heap.size + 1 < w5.heap.size := World.block_lt_of_cell? _ _ y0
       have zc_w5 : w.heap.size + 1 + 1 < w5.heap.size := World.block_lt_of_cell? _ _ c0
       have ze_w5 : w4.heap.size < w5.heap.size := World.block_lt_of_cell? _ _ e0))
  generalize hW : World.alloc w5 _ = W6
  replace x0 : W6.cell? ⟨w.heap.size, 0, none⟩ = some (.int .u32 x.k) := by rw [← hW]; exact (Kep.all (kep_more (Kep.refl _ _) _) x0)
  replace x1 : W6.cell? ⟨w.heap.size, 1, none⟩ = some (.int .i32 x.r) := by rw [← hW]; exact (Kep.all (kep_more (Kep.refl _ _) _) x1)
  replace x2 : W6.cell? ⟨w.heap.size, 2, none⟩ = some (.int .i32 x.ax) := by rw [← hW]; exact (Kep.all (kep_more (Kep.refl _ _) _) x2)
  replace x3 : W6.cell? ⟨w.heap.size, 3, none⟩ = some (.int .i32 x.ay) := by rw [← hW]; exact (Kep.all (kep_more (Kep.refl _ _) _) x3)
  replace x4 : W6.cell? ⟨w.heap.size, 4, none⟩ = some (.int .i32 x.m) := by rw [← hW]; exact (Kep.all (kep_more (Kep.refl _ _) _) x4)
  replace x5 : W6.cell? ⟨w.heap.size, 5, none⟩ = some (.int .i32 x.o) := by rw [← hW]; exact (Kep.all (kep_more (Kep.refl _ _) _) x5)
  replace x6 : W6.cell? ⟨w.heap.size, 6, none⟩ = some (.int .i32 x.px) := by rw [← hW]; exact (Kep.all (kep_more (Kep.refl _ _) _) x6)
  replace x7 : W6.cell? ⟨w.heap.size, 7, none⟩ = some (.int .i32 x.py) := by rw [← hW]; exact (Kep.all (kep_more (Kep.refl _ _) _) x7)
  replace x8 : W6.cell? ⟨w.heap.size, 8, none⟩ = some (.int .i32 x.vx) := by rw [← hW]; exact (Kep.all (kep_more (Kep.refl _ _) _) x8)
  replace x9 : W6.cell? ⟨w.heap.size, 9, none⟩ = some (.int .i32 x.vy) := by rw [← hW]; exact (Kep.all (kep_more (Kep.refl _ _) _) x9)
  replace y0 : W6.cell? ⟨w.heap.size + 1, 0, none⟩ = some (.int .u32 y.k) := by rw [← hW]; exact (Kep.all (kep_more (Kep.refl _ _) _) y0)
  replace y1 : W6.cell? ⟨w.heap.size + 1, 1, none⟩ = some (.int .i32 y.r) := by rw [← hW]; exact (Kep.all (kep_more (Kep.refl _ _) _) y1)
  replace y2 : W6.cell? ⟨w.heap.size + 1, 2, none⟩ = some (.int .i32 y.ax) := by rw [← hW]; exact (Kep.all (kep_more (Kep.refl _ _) _) y2)
  replace y3 : W6.cell? ⟨w.heap.size + 1, 3, none⟩ = some (.int .i32 y.ay) := by rw [← hW]; exact (Kep.all (kep_more (Kep.refl _ _) _) y3)
  replace y4 : W6.cell? ⟨w.heap.size + 1, 4, none⟩ = some (.int .i32 y.m) := by rw [← hW]; exact (Kep.all (kep_more (Kep.refl _ _) _) y4)
  replace y5 : W6.cell? ⟨w.heap.size + 1, 5, none⟩ = some (.int .i32 y.o) := by rw [← hW]; exact (Kep.all (kep_more (Kep.refl _ _) _) y5)
  replace y6 : W6.cell? ⟨w.heap.size + 1, 6, none⟩ = some (.int .i32 y.px) := by rw [← hW]; exact (Kep.all (kep_more (Kep.refl _ _) _) y6)
  replace y7 : W6.cell? ⟨w.heap.size + 1, 7, none⟩ = some (.int .i32 y.py) := by rw [← hW]; exact (Kep.all (kep_more (Kep.refl _ _) _) y7)
  replace y8 : W6.cell? ⟨w.heap.size + 1, 8, none⟩ = some (.int .i32 y.vx) := by rw [← hW]; exact (Kep.all (kep_more (Kep.refl _ _) _) y8)
  replace y9 : W6.cell? ⟨w.heap.size + 1, 9, none⟩ = some (.int .i32 y.vy) := by rw [← hW]; exact (Kep.all (kep_more (Kep.refl _ _) _) y9)
  replace c0 : W6.cell? ⟨w.heap.size + 1 + 1, 0, none⟩ = some (.int .u32 x.k) := by rw [← hW]; exact (Kep.all (kep_more (Kep.refl _ _) _) c0)
  replace c1 : W6.cell? ⟨w.heap.size + 1 + 1, 1, none⟩ = some (.int .i32 r) := by rw [← hW]; exact (Kep.all (kep_more (Kep.refl _ _) _) c1)
  replace c2 : W6.cell? ⟨w.heap.size + 1 + 1, 2, none⟩ = some (.int .i32 x.ax) := by rw [← hW]; exact (Kep.all (kep_more (Kep.refl _ _) _) c2)
  replace c3 : W6.cell? ⟨w.heap.size + 1 + 1, 3, none⟩ = some (.int .i32 x.ay) := by rw [← hW]; exact (Kep.all (kep_more (Kep.refl _ _) _) c3)
  replace c4 : W6.cell? ⟨w.heap.size + 1 + 1, 4, none⟩ = some (.int .i32 x.m) := by rw [← hW]; exact (Kep.all (kep_more (Kep.refl _ _) _) c4)
  replace c5 : W6.cell? ⟨w.heap.size + 1 + 1, 5, none⟩ = some (.int .i32 x.o) := by rw [← hW]; exact (Kep.all (kep_more (Kep.refl _ _) _) c5)
  replace c6 : W6.cell? ⟨w.heap.size + 1 + 1, 6, none⟩ = some (.int .i32 x.px) := by rw [← hW]; exact (Kep.all (kep_more (Kep.refl _ _) _) c6)
  replace c7 : W6.cell? ⟨w.heap.size + 1 + 1, 7, none⟩ = some (.int .i32 x.py) := by rw [← hW]; exact (Kep.all (kep_more (Kep.refl _ _) _) c7)
  replace c8 : W6.cell? ⟨w.heap.size + 1 + 1, 8, none⟩ = some (.int .i32 x.vx) := by rw [← hW]; exact (Kep.all (kep_more (Kep.refl _ _) _) c8)
  replace c9 : W6.cell? ⟨w.heap.size + 1 + 1, 9, none⟩ = some (.int .i32 x.vy) := by rw [← hW]; exact (Kep.all (kep_more (Kep.refl _ _) _) c9)
  replace e0 : W6.cell? ⟨w4.heap.size, 0, none⟩ = some (.int .u32 v0) := by rw [← hW]; exact (Kep.all (kep_more (Kep.refl _ _) _) e0)
  replace e1 : W6.cell? ⟨w4.heap.size, 1, none⟩ = some (.int .u32 v1) := by rw [← hW]; exact (Kep.all (kep_more (Kep.refl _ _) _) e1)
  replace e2 : W6.cell? ⟨w4.heap.size, 2, none⟩ = some (.int .i32 v2) := by rw [← hW]; exact (Kep.all (kep_more (Kep.refl _ _) _) e2)
  replace e3 : W6.cell? ⟨w4.heap.size, 3, none⟩ = some (.int .i32 v3) := by rw [← hW]; exact (Kep.all (kep_more (Kep.refl _ _) _) e3)
  replace e4 : W6.cell? ⟨w4.heap.size, 4, none⟩ = some (.int .i32 v4) := by rw [← hW]; exact (Kep.all (kep_more (Kep.refl _ _) _) e4)
  have f0 : W6.cell? ⟨w5.heap.size, 0, none⟩ = some (.int .u32 u0) := by
    rw [← hW]
    (repeat (first | rw [World.cell?_drew] | rw [World.cell?_alloc_past _ _ _ (by first | (simp; done) | (simp; omega))])); rw [World.cell?_alloc_at _ _ _ _ (by simp)]; rfl
  have f1 : W6.cell? ⟨w5.heap.size, 1, none⟩ = some (.int .u32 u1) := by
    rw [← hW]
    (repeat (first | rw [World.cell?_drew] | rw [World.cell?_alloc_past _ _ _ (by first | (simp; done) | (simp; omega))])); rw [World.cell?_alloc_at _ _ _ _ (by simp)]; rfl
  have f2 : W6.cell? ⟨w5.heap.size, 2, none⟩ = some (.int .i32 v2) := by
    rw [← hW]
    (repeat (first | rw [World.cell?_drew] | rw [World.cell?_alloc_past _ _ _ (by first | (simp; done) | (simp; omega))])); rw [World.cell?_alloc_at _ _ _ _ (by simp)]; rfl
  have f3 : W6.cell? ⟨w5.heap.size, 3, none⟩ = some (.int .i32 v3) := by
    rw [← hW]
    (repeat (first | rw [World.cell?_drew] | rw [World.cell?_alloc_past _ _ _ (by first | (simp; done) | (simp; omega))])); rw [World.cell?_alloc_at _ _ _ _ (by simp)]; rfl
  have f4 : W6.cell? ⟨w5.heap.size, 4, none⟩ = some (.int .i32 u4) := by
    rw [← hW]
    (repeat (first | rw [World.cell?_drew] | rw [World.cell?_alloc_past _ _ _ (by first | (simp; done) | (simp; omega))])); rw [World.cell?_alloc_at _ _ _ _ (by simp)]; rfl
  replace gg : Kep w.heap.size w W6 := by rw [← hW]; exact (kep_more gg _)
  clear hW
  have zx_W6 : w.heap.size < W6.heap.size := World.block_lt_of_cell? _ _ x0
  have zy_W6 : w.heap.size + 1 < W6.heap.size := World.block_lt_of_cell? _ _ y0
  have zc_W6 : w.heap.size + 1 + 1 < W6.heap.size := World.block_lt_of_cell? _ _ c0
  have ze_W6 : w4.heap.size < W6.heap.size := World.block_lt_of_cell? _ _ e0
  have zf_W6 : w5.heap.size < W6.heap.size := World.block_lt_of_cell? _ _ f0
  refine wp_region_noPanic ?_
  refine wp_region_held_drew (S := (fun w' => w'.cell? ⟨w.heap.size, 0, none⟩ = some (.int .u32 x.k) ∧ w'.cell? ⟨w.heap.size, 1, none⟩ = some (.int .i32 x.r) ∧ w'.cell? ⟨w.heap.size, 2, none⟩ = some (.int .i32 x.ax) ∧ w'.cell? ⟨w.heap.size, 3, none⟩ = some (.int .i32 x.ay) ∧ w'.cell? ⟨w.heap.size, 4, none⟩ = some (.int .i32 x.m) ∧ w'.cell? ⟨w.heap.size, 5, none⟩ = some (.int .i32 x.o) ∧ w'.cell? ⟨w.heap.size, 6, none⟩ = some (.int .i32 x.px) ∧ w'.cell? ⟨w.heap.size, 7, none⟩ = some (.int .i32 x.py) ∧ w'.cell? ⟨w.heap.size, 8, none⟩ = some (.int .i32 x.vx) ∧ w'.cell? ⟨w.heap.size, 9, none⟩ = some (.int .i32 x.vy) ∧ w'.cell? ⟨w.heap.size + 1, 0, none⟩ = some (.int .u32 y.k) ∧ w'.cell? ⟨w.heap.size + 1, 1, none⟩ = some (.int .i32 y.r) ∧ w'.cell? ⟨w.heap.size + 1, 2, none⟩ = some (.int .i32 y.ax) ∧ w'.cell? ⟨w.heap.size + 1, 3, none⟩ = some (.int .i32 y.ay) ∧ w'.cell? ⟨w.heap.size + 1, 4, none⟩ = some (.int .i32 y.m) ∧ w'.cell? ⟨w.heap.size + 1, 5, none⟩ = some (.int .i32 y.o) ∧ w'.cell? ⟨w.heap.size + 1, 6, none⟩ = some (.int .i32 y.px) ∧ w'.cell? ⟨w.heap.size + 1, 7, none⟩ = some (.int .i32 y.py) ∧ w'.cell? ⟨w.heap.size + 1, 8, none⟩ = some (.int .i32 y.vx) ∧ w'.cell? ⟨w.heap.size + 1, 9, none⟩ = some (.int .i32 y.vy) ∧ w'.cell? ⟨w.heap.size + 1 + 1, 0, none⟩ = some (.int .u32 x.k) ∧ w'.cell? ⟨w.heap.size + 1 + 1, 1, none⟩ = some (.int .i32 r) ∧ w'.cell? ⟨w.heap.size + 1 + 1, 2, none⟩ = some (.int .i32 x.ax) ∧ w'.cell? ⟨w.heap.size + 1 + 1, 3, none⟩ = some (.int .i32 x.ay) ∧ w'.cell? ⟨w.heap.size + 1 + 1, 4, none⟩ = some (.int .i32 x.m) ∧ w'.cell? ⟨w.heap.size + 1 + 1, 5, none⟩ = some (.int .i32 x.o) ∧ w'.cell? ⟨w.heap.size + 1 + 1, 6, none⟩ = some (.int .i32 x.px) ∧ w'.cell? ⟨w.heap.size + 1 + 1, 7, none⟩ = some (.int .i32 x.py) ∧ w'.cell? ⟨w.heap.size + 1 + 1, 8, none⟩ = some (.int .i32 x.vx) ∧ w'.cell? ⟨w.heap.size + 1 + 1, 9, none⟩ = some (.int .i32 x.vy) ∧ w'.cell? ⟨w4.heap.size, 0, none⟩ = some (.int .u32 v0) ∧ w'.cell? ⟨w4.heap.size, 1, none⟩ = some (.int .u32 v1) ∧ w'.cell? ⟨w4.heap.size, 2, none⟩ = some (.int .i32 v2) ∧ w'.cell? ⟨w4.heap.size, 3, none⟩ = some (.int .i32 v3) ∧ w'.cell? ⟨w4.heap.size, 4, none⟩ = some (.int .i32 v4) ∧ w'.cell? ⟨w5.heap.size, 0, none⟩ = some (.int .u32 u0) ∧ w'.cell? ⟨w5.heap.size, 1, none⟩ = some (.int .u32 u1) ∧ w'.cell? ⟨w5.heap.size, 2, none⟩ = some (.int .i32 v2) ∧ w'.cell? ⟨w5.heap.size, 3, none⟩ = some (.int .i32 v3) ∧ w'.cell? ⟨w5.heap.size, 4, none⟩ = some (.int .i32 u4) ∧ Kep w.heap.size w w')) (by kernel_rfl) (⟨by rw [World.cell?_drew]; exact x0, by rw [World.cell?_drew]; exact x1, by rw [World.cell?_drew]; exact x2, by rw [World.cell?_drew]; exact x3, by rw [World.cell?_drew]; exact x4, by rw [World.cell?_drew]; exact x5, by rw [World.cell?_drew]; exact x6, by rw [World.cell?_drew]; exact x7, by rw [World.cell?_drew]; exact x8, by rw [World.cell?_drew]; exact x9, by rw [World.cell?_drew]; exact y0, by rw [World.cell?_drew]; exact y1, by rw [World.cell?_drew]; exact y2, by rw [World.cell?_drew]; exact y3, by rw [World.cell?_drew]; exact y4, by rw [World.cell?_drew]; exact y5, by rw [World.cell?_drew]; exact y6, by rw [World.cell?_drew]; exact y7, by rw [World.cell?_drew]; exact y8, by rw [World.cell?_drew]; exact y9, by rw [World.cell?_drew]; exact c0, by rw [World.cell?_drew]; exact c1, by rw [World.cell?_drew]; exact c2, by rw [World.cell?_drew]; exact c3, by rw [World.cell?_drew]; exact c4, by rw [World.cell?_drew]; exact c5, by rw [World.cell?_drew]; exact c6, by rw [World.cell?_drew]; exact c7, by rw [World.cell?_drew]; exact c8, by rw [World.cell?_drew]; exact c9, by rw [World.cell?_drew]; exact e0, by rw [World.cell?_drew]; exact e1, by rw [World.cell?_drew]; exact e2, by rw [World.cell?_drew]; exact e3, by rw [World.cell?_drew]; exact e4, by rw [World.cell?_drew]; exact f0, by rw [World.cell?_drew]; exact f1, by rw [World.cell?_drew]; exact f2, by rw [World.cell?_drew]; exact f3, by rw [World.cell?_drew]; exact f4, kep_drew gg⟩) (fun hH => ?_)
  refine wpAnyH_take (i := 0) (oi := { dst := some 48, op := Op.load 26 (Operand.tmp 7), type := _, pos := _, after := _, guard := none }) (v := ?_) rfl (by kernel_rfl) (by kernel_rfl) (by kernel_rfl) (fun _ _ _ h => h) (Or.inl ⟨by rfl, ?_⟩) hH ?_
  rotate_left
  · (intro w hSw; (try dsimp only at hSw); go_simp; (try with_reducible rfl))
  try simp only [Act.put, List.setIfInBounds_toArray, List.set_cons_zero, List.set_cons_succ]
  refine wpAnyH_take (i := 1) (oi := { dst := some 49, op := Op.load 26 (Operand.tmp 4), type := _, pos := _, after := _, guard := none }) (v := ?_) rfl (by kernel_rfl) (by kernel_rfl) (by kernel_rfl) (fun _ _ _ h => h) (Or.inl ⟨by rfl, ?_⟩) hH ?_
  rotate_left
  · (intro w hSw; (try dsimp only at hSw); go_simp; (try with_reducible rfl))
  try simp only [Act.put, List.setIfInBounds_toArray, List.set_cons_zero, List.set_cons_succ]
  refine wpAnyH_take (i := 3) (oi := { dst := some 51, op := Op.load 26 (Operand.tmp 3), type := _, pos := _, after := _, guard := none }) (v := ?_) rfl (by kernel_rfl) (by kernel_rfl) (by kernel_rfl) (fun _ _ _ h => h) (Or.inl ⟨by rfl, ?_⟩) hH ?_
  rotate_left
  · (intro w hSw; (try dsimp only at hSw); go_simp; (try with_reducible rfl))
  try simp only [Act.put, List.setIfInBounds_toArray, List.set_cons_zero, List.set_cons_succ]
  refine wpAnyH_take (i := 4) (oi := { dst := some 52, op := Op.load 26 (Operand.tmp 4), type := _, pos := _, after := _, guard := none }) (v := ?_) rfl (by kernel_rfl) (by kernel_rfl) (by kernel_rfl) (fun _ _ _ h => h) (Or.inl ⟨by rfl, ?_⟩) hH ?_
  rotate_left
  · (intro w hSw; (try dsimp only at hSw); go_simp; (try with_reducible rfl))
  try simp only [Act.put, List.setIfInBounds_toArray, List.set_cons_zero, List.set_cons_succ]
  refine wpAnyH_take (i := 6) (oi := { dst := some 54, op := Op.move (Operand.tmp 2), type := _, pos := _, after := _, guard := none }) (v := ?_) rfl (by kernel_rfl) (by kernel_rfl) (by kernel_rfl) (fun _ _ _ h => h) (Or.inl ⟨by rfl, ?_⟩) hH ?_
  rotate_left
  · (intro w hSw; (try dsimp only at hSw); go_simp; (try with_reducible rfl))
  try simp only [Act.put, List.setIfInBounds_toArray, List.set_cons_zero, List.set_cons_succ]
  refine wpAnyH_take (i := 7) (oi := { dst := some 55, op := Op.fieldAddr 26 (Operand.tmp 3) 1, type := _, pos := _, after := _, guard := none }) (v := ?_) rfl (by kernel_rfl) (by kernel_rfl) (by kernel_rfl) (fun _ _ _ h => h) (Or.inl ⟨by rfl, ?_⟩) hH ?_
  rotate_left
  · (intro w hSw; (try dsimp only at hSw); go_simp; (try with_reducible rfl))
  try simp only [Act.put, List.setIfInBounds_toArray, List.set_cons_zero, List.set_cons_succ]
  refine wpAnyH_take (i := 8) (oi := { dst := some 56, op := Op.load 21 (Operand.tmp 55), type := _, pos := _, after := _, guard := none }) (v := ?_) rfl (by kernel_rfl) (by kernel_rfl) (by kernel_rfl) (fun _ _ _ h => h) (Or.inl ⟨by rfl, ?_⟩) hH ?_
  rotate_left
  · (intro w hSw; (try dsimp only at hSw); go_simp; (try with_reducible rfl))
  try simp only [Act.put, List.setIfInBounds_toArray, List.set_cons_zero, List.set_cons_succ]
  refine wpAnyH_take (i := 9) (oi := { dst := some 57, op := Op.binOp BinOp.sub 21 (Operand.tmp 54) (Operand.tmp 56) 21, type := _, pos := _, after := _, guard := none }) (v := ?_) rfl (by kernel_rfl) (by kernel_rfl) (by kernel_rfl) (fun _ _ _ h => h) (Or.inl ⟨by rfl, ?_⟩) hH ?_
  rotate_left
  · (intro w hSw; (try dsimp only at hSw); go_simp; (try with_reducible rfl))
  try simp only [Act.put, List.setIfInBounds_toArray, List.set_cons_zero, List.set_cons_succ]
  refine wpAnyH_take (i := 10) (oi := { dst := some 58, op := Op.convert 21 2 (Operand.tmp 57), type := _, pos := _, after := _, guard := none }) (v := ?_) rfl (by kernel_rfl) (by kernel_rfl) (by kernel_rfl) (fun _ _ _ h => h) (Or.inl ⟨by rfl, ?_⟩) hH ?_
  rotate_left
  · (intro w hSw; (try dsimp only at hSw); go_simp; (try with_reducible rfl))
  try simp only [Act.put, List.setIfInBounds_toArray, List.set_cons_zero, List.set_cons_succ]
  refine wpAnyH_ready (rs := [2]) (by kernel_rfl) (by simp) ?_
  refine AllReadyH.cons (o := { dst := some 50, op := Op.call { callee := Callee.value (Operand.func 13), args := #[Operand.tmp 48, Operand.tmp 49], argTypes := #[26, 26] }, type := _, pos := _, after := _, guard := none }) rfl (fun K hK => ?_) AllReadyH.nil
  go_simp
  (with_reducible refine (C3.out _).mono ?_); rintro e v7_2 ⟨rfl, g⟩
  refine hK.out _ _ (by (try dsimp only); (go_split_ands; exact ⟨Kep.all g (by assumption), Kep.all g (by assumption), Kep.all g (by assumption), Kep.all g (by assumption), Kep.all g (by assumption), Kep.all g (by assumption), Kep.all g (by assumption), Kep.all g (by assumption), Kep.all g (by assumption), Kep.all g (by assumption), Kep.all g (by assumption), Kep.all g (by assumption), Kep.all g (by assumption), Kep.all g (by assumption), Kep.all g (by assumption), Kep.all g (by assumption), Kep.all g (by assumption), Kep.all g (by assumption), Kep.all g (by assumption), Kep.all g (by assumption), Kep.all g (by assumption), Kep.all g (by assumption), Kep.all g (by assumption), Kep.all g (by assumption), Kep.all g (by assumption), Kep.all g (by assumption), Kep.all g (by assumption), Kep.all g (by assumption), Kep.all g (by assumption), Kep.all g (by assumption), Kep.all g (by assumption), Kep.all g (by assumption), Kep.all g (by assumption), Kep.all g (by assumption), Kep.all g (by assumption), Kep.all g (by assumption), Kep.all g (by assumption), Kep.all g (by assumption), Kep.all g (by assumption), Kep.all g (by assumption), kep_next (by assumption) g⟩)) (fun hH2 => ?_)
  clear hK K hH; have hH := hH2; clear hH2
  try simp only [Act.put, List.setIfInBounds_toArray, List.set_cons_zero, List.set_cons_succ]
  refine wpAnyH_ready (rs := [5]) (by kernel_rfl) (by simp) ?_
  refine AllReadyH.cons (o := { dst := some 53, op := Op.call { callee := Callee.value (Operand.func 13), args := #[Operand.tmp 51, Operand.tmp 52], argTypes := #[26, 26] }, type := _, pos := _, after := _, guard := none }) rfl (fun K hK => ?_) AllReadyH.nil
  go_simp
  (with_reducible refine (C4.out _).mono ?_); rintro e v7_5 ⟨rfl, g⟩
  refine hK.out _ _ (by (try dsimp only); (go_split_ands; exact ⟨Kep.all g (by assumption), Kep.all g (by assumption), Kep.all g (by assumption), Kep.all g (by assumption), Kep.all g (by assumption), Kep.all g (by assumption), Kep.all g (by assumption), Kep.all g (by assumption), Kep.all g (by assumption), Kep.all g (by assumption), Kep.all g (by assumption), Kep.all g (by assumption), Kep.all g (by assumption), Kep.all g (by assumption), Kep.all g (by assumption), Kep.all g (by assumption), Kep.all g (by assumption), Kep.all g (by assumption), Kep.all g (by assumption), Kep.all g (by assumption), Kep.all g (by assumption), Kep.all g (by assumption), Kep.all g (by assumption), Kep.all g (by assumption), Kep.all g (by assumption), Kep.all g (by assumption), Kep.all g (by assumption), Kep.all g (by assumption), Kep.all g (by assumption), Kep.all g (by assumption), Kep.all g (by assumption), Kep.all g (by assumption), Kep.all g (by assumption), Kep.all g (by assumption), Kep.all g (by assumption), Kep.all g (by assumption), Kep.all g (by assumption), Kep.all g (by assumption), Kep.all g (by assumption), Kep.all g (by assumption), kep_next (by assumption) g⟩)) (fun hH2 => ?_)
  clear hK K hH; have hH := hH2; clear hH2
  try simp only [Act.put, List.setIfInBounds_toArray, List.set_cons_zero, List.set_cons_succ]
  refine wpAnyH_take (i := 11) (oi := { dst := some 59, op := Op.binOp BinOp.sub 2 (Operand.tmp 53) (Operand.tmp 58) 2, type := _, pos := _, after := _, guard := none }) (v := ?_) rfl (by kernel_rfl) (by kernel_rfl) (by kernel_rfl) (fun _ _ _ h => h) (Or.inl ⟨by rfl, ?_⟩) hH ?_
  rotate_left
  · (intro w hSw; (try dsimp only at hSw); go_simp; (try with_reducible rfl))
  try simp only [Act.put, List.setIfInBounds_toArray, List.set_cons_zero, List.set_cons_succ]
  refine wpAnyH_take (i := 12) (oi := { dst := some 60, op := Op.binOp BinOp.neq 2 (Operand.tmp 50) (Operand.tmp 59) 2, type := _, pos := _, after := _, guard := none }) (v := ?_) rfl (by kernel_rfl) (by kernel_rfl) (by kernel_rfl) (fun _ _ _ h => h) (Or.inl ⟨by rfl, ?_⟩) hH ?_
  rotate_left
  · (intro w hSw; (try dsimp only at hSw); go_simp; (try with_reducible rfl))
  try simp only [Act.put, List.setIfInBounds_toArray, List.set_cons_zero, List.set_cons_succ]
  refine wpAnyH_take (i := 13) (oi := { dst := some 61, op := Op.move (Operand.tmp 60), type := _, pos := _, after := _, guard := none }) (v := ?_) rfl (by kernel_rfl) (by kernel_rfl) (by kernel_rfl) (fun _ _ _ h => h) (Or.inl ⟨by rfl, ?_⟩) hH ?_
  rotate_left
  · (intro w hSw; (try dsimp only at hSw); go_simp; (try with_reducible rfl))
  try simp only [Act.put, List.setIfInBounds_toArray, List.set_cons_zero, List.set_cons_succ]
  refine wpAnyH_take (i := 14) (oi := { dst := some 62, op := Op.move (Operand.tmp 9), type := _, pos := _, after := _, guard := some (13, false) }) (v := ?_) rfl (by kernel_rfl) (by kernel_rfl) (by kernel_rfl) (fun _ _ _ h => h) (Or.inl ⟨by rfl, ?_⟩) hH ?_
  rotate_left
  · (intro w hSw; (try dsimp only at hSw); go_simp; (try with_reducible rfl))
  try simp only [Act.put, List.setIfInBounds_toArray, List.set_cons_zero, List.set_cons_succ]
  refine wpAnyH_take (i := 15) (oi := { dst := some 63, op := Op.move (Operand.tmp 62), type := _, pos := _, after := _, guard := some (13, false) }) (v := ?_) rfl (by kernel_rfl) (by kernel_rfl) (by kernel_rfl) (fun _ _ _ h => h) (Or.inl ⟨by rfl, ?_⟩) hH ?_
  rotate_left
  · (intro w hSw; (try dsimp only at hSw); go_simp; (try with_reducible rfl))
  try simp only [Act.put, List.setIfInBounds_toArray, List.set_cons_zero, List.set_cons_succ]
  refine wpAnyH_take (i := 16) (oi := { dst := some 64, op := Op.move (Operand.tmp 11), type := _, pos := _, after := _, guard := some (15, true) }) (v := ?_) rfl (by kernel_rfl) (by kernel_rfl) (by kernel_rfl) (fun _ _ _ h => h) (Or.inl ⟨by rfl, ?_⟩) hH ?_
  rotate_left
  · (intro w hSw; (try dsimp only at hSw); go_simp; (try with_reducible rfl))
  try simp only [Act.put, List.setIfInBounds_toArray, List.set_cons_zero, List.set_cons_succ]
  refine wpAnyH_take (i := 17) (oi := { dst := some 65, op := Op.unOp UnOp.not 4 (Operand.tmp 64), type := _, pos := _, after := _, guard := some (15, true) }) (v := ?_) rfl (by kernel_rfl) (by kernel_rfl) (by kernel_rfl) (fun _ _ _ h => h) (Or.inl ⟨by rfl, ?_⟩) hH ?_
  rotate_left
  · (intro w hSw; (try dsimp only at hSw); go_simp; (try with_reducible rfl))
  try simp only [Act.put, List.setIfInBounds_toArray, List.set_cons_zero, List.set_cons_succ]
  refine wpAnyH_take (i := 18) (oi := { dst := some 66, op := Op.pick (Operand.tmp 63) (Operand.tmp 65) (Operand.const (Value.bool false)), type := _, pos := _, after := _, guard := some (13, false) }) (v := ?_) rfl (by kernel_rfl) (by kernel_rfl) (by kernel_rfl) (fun _ _ _ h => h) (Or.inl ⟨by rfl, ?_⟩) hH ?_
  rotate_left
  · (intro w hSw; (try dsimp only at hSw); go_simp; (try with_reducible rfl))
  try simp only [Act.put, List.setIfInBounds_toArray, List.set_cons_zero, List.set_cons_succ]
  refine wpAnyH_take (i := 19) (oi := { dst := some 67, op := Op.pick (Operand.tmp 61) (Operand.const (Value.bool true)) (Operand.tmp 66), type := _, pos := _, after := _, guard := none }) (v := ?_) rfl (by kernel_rfl) (by kernel_rfl) (by kernel_rfl) (fun _ _ _ h => h) (Or.inl ⟨by rfl, ?_⟩) hH ?_
  rotate_left
  · (intro w hSw; (try dsimp only at hSw); go_simp; (try with_reducible rfl))
  try simp only [Act.put, List.setIfInBounds_toArray, List.set_cons_zero, List.set_cons_succ]
  refine wpAnyH_done (by kernel_rfl) ?_ _
  refine NoPanic.normal ?_
  clear x0 x1 x2 x3 x4 x5 x6 x7 x8 x9 y0 y1 y2 y3 y4 y5 y6 y7 y8 y9 c0 c1 c2 c3 c4 c5 c6 c7 c8 c9 e0 e1 e2 e3 e4 f0 f1 f2 f3 f4 gg
  obtain ⟨x0, x1, x2, x3, x4, x5, x6, x7, x8, x9, y0, y1, y2, y3, y4, y5, y6, y7, y8, y9, c0, c1, c2, c3, c4, c5, c6, c7, c8, c9, e0, e1, e2, e3, e4, f0, f1, f2, f3, f4, gg⟩ := hH
  go_wp2_with fail
  go_ret
  exact ⟨rfl, gg⟩
/-- The law ContactGrows. -/
theorem kgl_law (O : QOps) (AW : QAwake) (x y : Bd) (r : Int) (w : World) : Calls Try.prog 7 #[.agg #[.int .u32 x.k, .int .i32 x.r, .int .i32 x.ax, .int .i32 x.ay, .int .i32 x.m, .int .i32 x.o, .int .i32 x.px, .int .i32 x.py, .int .i32 x.vx, .int .i32 x.vy], .agg #[.int .u32 y.k, .int .i32 y.r, .int .i32 y.ax, .int .i32 y.ay, .int .i32 y.m, .int .i32 y.o, .int .i32 y.px, .int .i32 y.py, .int .i32 y.vx, .int .i32 y.vy], .int .i32 r] w fun e w' => e = .returned (.bool true) ∧ Kep w.heap.size w w' := by
  cases hr : rgtB x y
  · exact kgl_b1 (Lib.hid AW) x y r (Lib.hid (krr x y false hr)) w
  · have RR := Lib.hid (krr x y true hr)
    cases hr2 : rgtB { x with r := r } y
    · exact kgl_b2 (Lib.hid AW) x y r RR (Lib.hid (krr { x with r := r } y false hr2)) w
    · have R2 := krr { x with r := r } y true hr2
      by_cases hlt : r < x.r
      · exact kgl_b3 (Lib.hid AW) x y r RR (Lib.hid R2) (decide_eq_true hlt) w
      · obtain ⟨hx, hy, hk⟩ := rgtB_iff.1 hr
        obtain ⟨hx2, _, hk2⟩ := rgtB_iff.1 hr2
        have h := grow_r hx hx2 hy (Int.not_lt.1 hlt)
        have l1 := (okC_lim hx).1
        have l2 := (okC_lim hx2).1
        have ho := low_ok hx hy
        have nb := cln_bd ho.1 ho.2
        have sb := csm_bd ho.1 ho.2
        dsimp only at l2
        have C1 := O.of_ hx hy hk
        have C2 := O.of_ hx2 hy hk2
        have C3 := O.gap hx2 hy hk2
        have C4 := O.gap hx hy hk
        have gb : gapC (lowB x y) (higB x y) = cln (lowB x y) (higB x y) - csm (lowB x y) (higB x y) := rfl
        have eu := h.2
        cases hz : tchB (lowB x y) (higB x y)
        · rw [hz] at C1
          generalize conV (lowB x y) (higB x y) = v at *
          generalize conV (lowB { x with r := r } y) (higB { x with r := r } y) = u at *
          generalize tchB (lowB { x with r := r } y) (higB { x with r := r } y) = z2 at *
          obtain ⟨v0, v1, v2, v3, v4⟩ := v
          obtain ⟨u0, u1, u2, u3, u4⟩ := u
          refine kgl_f (Lib.hid AW) x y r (r - x.r) _ _ v0 v1 v2 v3 v4 u0 u1 u2 u3 u4 z2 RR (Lib.hid R2) (Lib.hid C1) (Lib.hid C2) (Lib.hid C3) (Lib.hid C4) (decide_eq_false hlt) ?_ ?_ ?_ w
          · rw [IntKind.wrap_i32]; omega
          · rw [IntKind.wrap_i64]; omega
          · rw [h.1, IntKind.wrap_i64]; omega
        · obtain ⟨t1, t2, t3, t4⟩ := eu hz
          have hdp : (conV (lowB x y) (higB x y)).dp = csm (lowB x y) (higB x y) - cln (lowB x y) (higB x y) := by unfold conV; rw [if_pos hz]; rfl
          rw [hz] at C1
          rw [t1] at C2
          generalize conV (lowB x y) (higB x y) = v at *
          generalize conV (lowB { x with r := r } y) (higB { x with r := r } y) = u at *
          obtain ⟨v0, v1, v2, v3, v4⟩ := v
          obtain ⟨u0, u1, u2, u3, u4⟩ := u
          dsimp only at t2 t3 t4 hdp
          subst t2 t3
          refine kgl_t (Lib.hid AW) x y r (r - x.r) _ _ v0 v1 _ _ v4 u0 u1 u4 RR (Lib.hid R2) (Lib.hid C1) (Lib.hid C2) (Lib.hid C3) (Lib.hid C4) (decide_eq_false hlt) ?_ ?_ ?_ ?_ w
          · rw [IntKind.wrap_i32]; omega
          · rw [IntKind.wrap_i64]; omega
          · rw [h.1, IntKind.wrap_i64]; omega
          · rw [IntKind.wrap_i32]; omega
end Go.Proofs.Ytlcenopebgkjgaa
