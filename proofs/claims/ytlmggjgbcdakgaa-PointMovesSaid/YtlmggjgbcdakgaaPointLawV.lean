/-
  Package point: the law PointMoves.
-/
import Derived.Test.YtlmggjgbcdakgaaPointLawM
import Derived.Deep.DeepCutAuto
import Derived.Deep.QuietTactic
import Derived.BigQuiet
namespace Go.Proofs.Ytlmggjgbcdakgaa
open Go.RowKit Go.Lib

abbrev MVk (px py vx vy x y : Int) : Prop := ∀ w, Calls Try.prog 18 #[.agg #[.int .i32 px, .int .i32 py], .agg #[.int .i32 vx, .int .i32 vy]] w fun e w' => e = .returned (.agg #[.int .i32 x, .int .i32 y]) ∧ Kep w.heap.size w w'
theorem pt_moved {px py qx qy cx cy dx dy ux uy d n x y t vx vy dx2 dy2 ux2 uy2 d2 n2 x2 y2 t2 : Int} (P : Pt px py qx qy cx cy dx dy ux uy d n x y t) (P2 : Pt (px + vx) (py + vy) (qx + vx) (qy + vy) (cx + vx) (cy + vy) dx2 dy2 ux2 uy2 d2 n2 x2 y2 t2) : x2 = x + vx ∧ y2 = y + vy ∧ t2 = t := by
  have a1 : dx2 = dx := by have := P.hx; have := P2.hx; omega
  have a2 : dy2 = dy := by have := P.hy; have := P2.hy; omega
  have a3 : ux2 = ux := by have := P.hu; have := P2.hu; omega
  have a4 : uy2 = uy := by have := P.hv; have := P2.hv; omega
  have a5 : d2 = d := by rw [← P.hd, ← P2.hd, a1, a2]
  have a6 : n2 = n := by rw [← P.hn, ← P2.hn, a1, a2, a3, a4]
  have b1 := P.hX
  have b2 := P2.hX
  have b3 := P.hY
  have b4 := P2.hY
  rw [a1, a5, a6] at b2
  rw [a2, a5, a6] at b4
  have c1 : x2 = x + vx := by omega
  have c2 : y2 = y + vy := by omega
  refine ⟨c1, c2, ?_⟩
  rw [← P.ht, ← P2.ht, c1, c2]
  congr 1 <;> omega
set_option maxRecDepth 100000 in
set_option maxHeartbeats 1000000 in
theorem mvk {px py vx vy x y : Int} (hx : IntKind.i32.wrap (px + vx) = x) (hy : IntKind.i32.wrap (py + vy) = y) : MVk px py vx vy x y := fun w => by
  go_enter Try.func18, Try.ntmps18
  go_wp2_with fail
  exact bodyPost_ret (v := .agg #[.int .i32 x, .int .i32 y]) (by simp [results, Try.results18, go_sem]) rfl ⟨rfl, by repeat first | exact Kep.refl _ _ | refine kep_more ?_ _ | refine kep_set ?_ (by first | (simp; done) | (simp; omega)) _⟩
set_option maxRecDepth 100000 in
set_option maxHeartbeats 2000000 in
theorem nvl_bad (AW : Hid NAwake) (px py qx qy cx cy vx vy : Int) (hr : rgB px py qx qy cx cy = false) (w : World) : Calls Try.prog 6 #[.agg #[.int .i32 px, .int .i32 py], .agg #[.int .i32 qx, .int .i32 qy], .agg #[.int .i32 cx, .int .i32 cy], .agg #[.int .i32 vx, .int .i32 vy]] w fun e w' => e = .returned (.bool true) ∧ Kep w.heap.size w w' := by
  have RR := Lib.hid (rri px py qx qy cx cy false hr)
  clear hr
  go_enter Try.func6, Try.ntmps6
  go_wp2_with (first
    | ((with_reducible refine (AW.out _).mono ?_); rintro e w1 ⟨rfl, g1⟩
       first
         | (replace gg := kep_next gg g1)
         | (have p0 := Kep.all g1 (a := ⟨w.heap.size, 0, none⟩) (v := .int .i32 px) (by (repeat (first | rw [World.cell?_drew] | rw [World.cell?_alloc_past _ _ _ (by first | (simp; done) | (simp; omega))])); rw [World.cell?_alloc_at _ _ _ _ (by simp)]; rfl)
            have p1 := Kep.all g1 (a := ⟨w.heap.size, 1, none⟩) (v := .int .i32 py) (by (repeat (first | rw [World.cell?_drew] | rw [World.cell?_alloc_past _ _ _ (by first | (simp; done) | (simp; omega))])); rw [World.cell?_alloc_at _ _ _ _ (by simp)]; rfl)
            have q0 := Kep.all g1 (a := ⟨w.heap.size + 1, 0, none⟩) (v := .int .i32 qx) (by (repeat (first | rw [World.cell?_drew] | rw [World.cell?_alloc_past _ _ _ (by first | (simp; done) | (simp; omega))])); rw [World.cell?_alloc_at _ _ _ _ (by simp)]; rfl)
            have q1 := Kep.all g1 (a := ⟨w.heap.size + 1, 1, none⟩) (v := .int .i32 qy) (by (repeat (first | rw [World.cell?_drew] | rw [World.cell?_alloc_past _ _ _ (by first | (simp; done) | (simp; omega))])); rw [World.cell?_alloc_at _ _ _ _ (by simp)]; rfl)
            have c0 := Kep.all g1 (a := ⟨w.heap.size + 1 + 1, 0, none⟩) (v := .int .i32 cx) (by (repeat (first | rw [World.cell?_drew] | rw [World.cell?_alloc_past _ _ _ (by first | (simp; done) | (simp; omega))])); rw [World.cell?_alloc_at _ _ _ _ (by simp)]; rfl)
            have c1 := Kep.all g1 (a := ⟨w.heap.size + 1 + 1, 1, none⟩) (v := .int .i32 cy) (by (repeat (first | rw [World.cell?_drew] | rw [World.cell?_alloc_past _ _ _ (by first | (simp; done) | (simp; omega))])); rw [World.cell?_alloc_at _ _ _ _ (by simp)]; rfl)
            have v0 := Kep.all g1 (a := ⟨w.heap.size + 1 + 1 + 1, 0, none⟩) (v := .int .i32 vx) (by (repeat (first | rw [World.cell?_drew] | rw [World.cell?_alloc_past _ _ _ (by first | (simp; done) | (simp; omega))])); rw [World.cell?_alloc_at _ _ _ _ (by simp)]; rfl)
            have v1 := Kep.all g1 (a := ⟨w.heap.size + 1 + 1 + 1, 1, none⟩) (v := .int .i32 vy) (by (repeat (first | rw [World.cell?_drew] | rw [World.cell?_alloc_past _ _ _ (by first | (simp; done) | (simp; omega))])); rw [World.cell?_alloc_at _ _ _ _ (by simp)]; rfl)
            have gg := kep_next (kep_more (kep_more (kep_more (kep_more (Kep.refl _ _) _) _) _) _) g1
            have zp_w1 : w.heap.size < w1.heap.size := World.block_lt_of_cell? _ _ p0
            have zq_w1 : w.heap.size + 1 < w1.heap.size := World.block_lt_of_cell? _ _ q0
            have zc_w1 : w.heap.size + 1 + 1 < w1.heap.size := World.block_lt_of_cell? _ _ c0
            have zv_w1 : w.heap.size + 1 + 1 + 1 < w1.heap.size := World.block_lt_of_cell? _ _ v0))
    | ((with_reducible refine (RR.out _).mono ?_); rintro e w2 ⟨rfl, g2⟩
       replace p0 := Kep.all g2 (a := ⟨w.heap.size, 0, none⟩) (v := .int .i32 px) p0
       replace p1 := Kep.all g2 (a := ⟨w.heap.size, 1, none⟩) (v := .int .i32 py) p1
       replace q0 := Kep.all g2 (a := ⟨w.heap.size + 1, 0, none⟩) (v := .int .i32 qx) q0
       replace q1 := Kep.all g2 (a := ⟨w.heap.size + 1, 1, none⟩) (v := .int .i32 qy) q1
       replace c0 := Kep.all g2 (a := ⟨w.heap.size + 1 + 1, 0, none⟩) (v := .int .i32 cx) c0
       replace c1 := Kep.all g2 (a := ⟨w.heap.size + 1 + 1, 1, none⟩) (v := .int .i32 cy) c1
       replace v0 := Kep.all g2 (a := ⟨w.heap.size + 1 + 1 + 1, 0, none⟩) (v := .int .i32 vx) v0
       replace v1 := Kep.all g2 (a := ⟨w.heap.size + 1 + 1 + 1, 1, none⟩) (v := .int .i32 vy) v1
       replace gg := kep_next gg g2
       have zp_w2 : w.heap.size < w2.heap.size := World.block_lt_of_cell? _ _ p0
       have zq_w2 : w.heap.size + 1 < w2.heap.size := World.block_lt_of_cell? _ _ q0
       have zc_w2 : w.heap.size + 1 + 1 < w2.heap.size := World.block_lt_of_cell? _ _ c0
       have zv_w2 : w.heap.size + 1 + 1 + 1 < w2.heap.size := World.block_lt_of_cell? _ _ v0))
  go_ret
  exact ⟨rfl, gg⟩
set_option maxRecDepth 100000 in
set_option maxHeartbeats 2000000 in
theorem nvl_out (AW : Hid NAwake) (px py qx qy cx cy vx vy : Int) (hr : rgB px py qx qy cx cy = true) (hv : ¬ ((-1000000000 ≤ vx ∧ vx ≤ 1000000000) ∧ (-1000000000 ≤ vy ∧ vy ≤ 1000000000))) (w : World) : Calls Try.prog 6 #[.agg #[.int .i32 px, .int .i32 py], .agg #[.int .i32 qx, .int .i32 qy], .agg #[.int .i32 cx, .int .i32 cy], .agg #[.int .i32 vx, .int .i32 vy]] w fun e w' => e = .returned (.bool true) ∧ Kep w.heap.size w w' := by
  have RR := Lib.hid (rri px py qx qy cx cy true hr)
  clear hr
  by_cases k0 : vx < -1000000000
  · have c0 : decide (vx < (-1000000000 : Int)) = true := decide_eq_true k0
    clear hv
    go_enter Try.func6, Try.ntmps6
    go_wp2_with (first
      | ((with_reducible refine (AW.out _).mono ?_); rintro e w1 ⟨rfl, g1⟩
         first
           | (replace gg := kep_next gg g1)
           | (have p0 := Kep.all g1 (a := ⟨w.heap.size, 0, none⟩) (v := .int .i32 px) (by (repeat (first | rw [World.cell?_drew] | rw [World.cell?_alloc_past _ _ _ (by first | (simp; done) | (simp; omega))])); rw [World.cell?_alloc_at _ _ _ _ (by simp)]; rfl)
              have p1 := Kep.all g1 (a := ⟨w.heap.size, 1, none⟩) (v := .int .i32 py) (by (repeat (first | rw [World.cell?_drew] | rw [World.cell?_alloc_past _ _ _ (by first | (simp; done) | (simp; omega))])); rw [World.cell?_alloc_at _ _ _ _ (by simp)]; rfl)
              have q0 := Kep.all g1 (a := ⟨w.heap.size + 1, 0, none⟩) (v := .int .i32 qx) (by (repeat (first | rw [World.cell?_drew] | rw [World.cell?_alloc_past _ _ _ (by first | (simp; done) | (simp; omega))])); rw [World.cell?_alloc_at _ _ _ _ (by simp)]; rfl)
              have q1 := Kep.all g1 (a := ⟨w.heap.size + 1, 1, none⟩) (v := .int .i32 qy) (by (repeat (first | rw [World.cell?_drew] | rw [World.cell?_alloc_past _ _ _ (by first | (simp; done) | (simp; omega))])); rw [World.cell?_alloc_at _ _ _ _ (by simp)]; rfl)
              have c0 := Kep.all g1 (a := ⟨w.heap.size + 1 + 1, 0, none⟩) (v := .int .i32 cx) (by (repeat (first | rw [World.cell?_drew] | rw [World.cell?_alloc_past _ _ _ (by first | (simp; done) | (simp; omega))])); rw [World.cell?_alloc_at _ _ _ _ (by simp)]; rfl)
              have c1 := Kep.all g1 (a := ⟨w.heap.size + 1 + 1, 1, none⟩) (v := .int .i32 cy) (by (repeat (first | rw [World.cell?_drew] | rw [World.cell?_alloc_past _ _ _ (by first | (simp; done) | (simp; omega))])); rw [World.cell?_alloc_at _ _ _ _ (by simp)]; rfl)
              have v0 := Kep.all g1 (a := ⟨w.heap.size + 1 + 1 + 1, 0, none⟩) (v := .int .i32 vx) (by (repeat (first | rw [World.cell?_drew] | rw [World.cell?_alloc_past _ _ _ (by first | (simp; done) | (simp; omega))])); rw [World.cell?_alloc_at _ _ _ _ (by simp)]; rfl)
              have v1 := Kep.all g1 (a := ⟨w.heap.size + 1 + 1 + 1, 1, none⟩) (v := .int .i32 vy) (by (repeat (first | rw [World.cell?_drew] | rw [World.cell?_alloc_past _ _ _ (by first | (simp; done) | (simp; omega))])); rw [World.cell?_alloc_at _ _ _ _ (by simp)]; rfl)
              have gg := kep_next (kep_more (kep_more (kep_more (kep_more (Kep.refl _ _) _) _) _) _) g1
              have zp_w1 : w.heap.size < w1.heap.size := World.block_lt_of_cell? _ _ p0
              have zq_w1 : w.heap.size + 1 < w1.heap.size := World.block_lt_of_cell? _ _ q0
              have zc_w1 : w.heap.size + 1 + 1 < w1.heap.size := World.block_lt_of_cell? _ _ c0
              have zv_w1 : w.heap.size + 1 + 1 + 1 < w1.heap.size := World.block_lt_of_cell? _ _ v0))
      | ((with_reducible refine (RR.out _).mono ?_); rintro e w2 ⟨rfl, g2⟩
         replace p0 := Kep.all g2 (a := ⟨w.heap.size, 0, none⟩) (v := .int .i32 px) p0
         replace p1 := Kep.all g2 (a := ⟨w.heap.size, 1, none⟩) (v := .int .i32 py) p1
         replace q0 := Kep.all g2 (a := ⟨w.heap.size + 1, 0, none⟩) (v := .int .i32 qx) q0
         replace q1 := Kep.all g2 (a := ⟨w.heap.size + 1, 1, none⟩) (v := .int .i32 qy) q1
         replace c0 := Kep.all g2 (a := ⟨w.heap.size + 1 + 1, 0, none⟩) (v := .int .i32 cx) c0
         replace c1 := Kep.all g2 (a := ⟨w.heap.size + 1 + 1, 1, none⟩) (v := .int .i32 cy) c1
         replace v0 := Kep.all g2 (a := ⟨w.heap.size + 1 + 1 + 1, 0, none⟩) (v := .int .i32 vx) v0
         replace v1 := Kep.all g2 (a := ⟨w.heap.size + 1 + 1 + 1, 1, none⟩) (v := .int .i32 vy) v1
         replace gg := kep_next gg g2
         have zp_w2 : w.heap.size < w2.heap.size := World.block_lt_of_cell? _ _ p0
         have zq_w2 : w.heap.size + 1 < w2.heap.size := World.block_lt_of_cell? _ _ q0
         have zc_w2 : w.heap.size + 1 + 1 < w2.heap.size := World.block_lt_of_cell? _ _ c0
         have zv_w2 : w.heap.size + 1 + 1 + 1 < w2.heap.size := World.block_lt_of_cell? _ _ v0))
    go_ret
    exact ⟨rfl, gg⟩
  have c0 : decide (vx < (-1000000000 : Int)) = false := decide_eq_false k0
  by_cases k1 : 1000000000 < vx
  · have c1 : decide ((1000000000 : Int) < vx) = true := decide_eq_true k1
    clear hv
    go_enter Try.func6, Try.ntmps6
    go_wp2_with (first
      | ((with_reducible refine (AW.out _).mono ?_); rintro e w1 ⟨rfl, g1⟩
         first
           | (replace gg := kep_next gg g1)
           | (have p0 := Kep.all g1 (a := ⟨w.heap.size, 0, none⟩) (v := .int .i32 px) (by (repeat (first | rw [World.cell?_drew] | rw [World.cell?_alloc_past _ _ _ (by first | (simp; done) | (simp; omega))])); rw [World.cell?_alloc_at _ _ _ _ (by simp)]; rfl)
              have p1 := Kep.all g1 (a := ⟨w.heap.size, 1, none⟩) (v := .int .i32 py) (by (repeat (first | rw [World.cell?_drew] | rw [World.cell?_alloc_past _ _ _ (by first | (simp; done) | (simp; omega))])); rw [World.cell?_alloc_at _ _ _ _ (by simp)]; rfl)
              have q0 := Kep.all g1 (a := ⟨w.heap.size + 1, 0, none⟩) (v := .int .i32 qx) (by (repeat (first | rw [World.cell?_drew] | rw [World.cell?_alloc_past _ _ _ (by first | (simp; done) | (simp; omega))])); rw [World.cell?_alloc_at _ _ _ _ (by simp)]; rfl)
              have q1 := Kep.all g1 (a := ⟨w.heap.size + 1, 1, none⟩) (v := .int .i32 qy) (by (repeat (first | rw [World.cell?_drew] | rw [World.cell?_alloc_past _ _ _ (by first | (simp; done) | (simp; omega))])); rw [World.cell?_alloc_at _ _ _ _ (by simp)]; rfl)
              have c0 := Kep.all g1 (a := ⟨w.heap.size + 1 + 1, 0, none⟩) (v := .int .i32 cx) (by (repeat (first | rw [World.cell?_drew] | rw [World.cell?_alloc_past _ _ _ (by first | (simp; done) | (simp; omega))])); rw [World.cell?_alloc_at _ _ _ _ (by simp)]; rfl)
              have c1 := Kep.all g1 (a := ⟨w.heap.size + 1 + 1, 1, none⟩) (v := .int .i32 cy) (by (repeat (first | rw [World.cell?_drew] | rw [World.cell?_alloc_past _ _ _ (by first | (simp; done) | (simp; omega))])); rw [World.cell?_alloc_at _ _ _ _ (by simp)]; rfl)
              have v0 := Kep.all g1 (a := ⟨w.heap.size + 1 + 1 + 1, 0, none⟩) (v := .int .i32 vx) (by (repeat (first | rw [World.cell?_drew] | rw [World.cell?_alloc_past _ _ _ (by first | (simp; done) | (simp; omega))])); rw [World.cell?_alloc_at _ _ _ _ (by simp)]; rfl)
              have v1 := Kep.all g1 (a := ⟨w.heap.size + 1 + 1 + 1, 1, none⟩) (v := .int .i32 vy) (by (repeat (first | rw [World.cell?_drew] | rw [World.cell?_alloc_past _ _ _ (by first | (simp; done) | (simp; omega))])); rw [World.cell?_alloc_at _ _ _ _ (by simp)]; rfl)
              have gg := kep_next (kep_more (kep_more (kep_more (kep_more (Kep.refl _ _) _) _) _) _) g1
              have zp_w1 : w.heap.size < w1.heap.size := World.block_lt_of_cell? _ _ p0
              have zq_w1 : w.heap.size + 1 < w1.heap.size := World.block_lt_of_cell? _ _ q0
              have zc_w1 : w.heap.size + 1 + 1 < w1.heap.size := World.block_lt_of_cell? _ _ c0
              have zv_w1 : w.heap.size + 1 + 1 + 1 < w1.heap.size := World.block_lt_of_cell? _ _ v0))
      | ((with_reducible refine (RR.out _).mono ?_); rintro e w2 ⟨rfl, g2⟩
         replace p0 := Kep.all g2 (a := ⟨w.heap.size, 0, none⟩) (v := .int .i32 px) p0
         replace p1 := Kep.all g2 (a := ⟨w.heap.size, 1, none⟩) (v := .int .i32 py) p1
         replace q0 := Kep.all g2 (a := ⟨w.heap.size + 1, 0, none⟩) (v := .int .i32 qx) q0
         replace q1 := Kep.all g2 (a := ⟨w.heap.size + 1, 1, none⟩) (v := .int .i32 qy) q1
         replace c0 := Kep.all g2 (a := ⟨w.heap.size + 1 + 1, 0, none⟩) (v := .int .i32 cx) c0
         replace c1 := Kep.all g2 (a := ⟨w.heap.size + 1 + 1, 1, none⟩) (v := .int .i32 cy) c1
         replace v0 := Kep.all g2 (a := ⟨w.heap.size + 1 + 1 + 1, 0, none⟩) (v := .int .i32 vx) v0
         replace v1 := Kep.all g2 (a := ⟨w.heap.size + 1 + 1 + 1, 1, none⟩) (v := .int .i32 vy) v1
         replace gg := kep_next gg g2
         have zp_w2 : w.heap.size < w2.heap.size := World.block_lt_of_cell? _ _ p0
         have zq_w2 : w.heap.size + 1 < w2.heap.size := World.block_lt_of_cell? _ _ q0
         have zc_w2 : w.heap.size + 1 + 1 < w2.heap.size := World.block_lt_of_cell? _ _ c0
         have zv_w2 : w.heap.size + 1 + 1 + 1 < w2.heap.size := World.block_lt_of_cell? _ _ v0))
    go_ret
    exact ⟨rfl, gg⟩
  have c1 : decide ((1000000000 : Int) < vx) = false := decide_eq_false k1
  by_cases k2 : vy < -1000000000
  · have c2 : decide (vy < (-1000000000 : Int)) = true := decide_eq_true k2
    clear hv
    go_enter Try.func6, Try.ntmps6
    go_wp2_with (first
      | ((with_reducible refine (AW.out _).mono ?_); rintro e w1 ⟨rfl, g1⟩
         first
           | (replace gg := kep_next gg g1)
           | (have p0 := Kep.all g1 (a := ⟨w.heap.size, 0, none⟩) (v := .int .i32 px) (by (repeat (first | rw [World.cell?_drew] | rw [World.cell?_alloc_past _ _ _ (by first | (simp; done) | (simp; omega))])); rw [World.cell?_alloc_at _ _ _ _ (by simp)]; rfl)
              have p1 := Kep.all g1 (a := ⟨w.heap.size, 1, none⟩) (v := .int .i32 py) (by (repeat (first | rw [World.cell?_drew] | rw [World.cell?_alloc_past _ _ _ (by first | (simp; done) | (simp; omega))])); rw [World.cell?_alloc_at _ _ _ _ (by simp)]; rfl)
              have q0 := Kep.all g1 (a := ⟨w.heap.size + 1, 0, none⟩) (v := .int .i32 qx) (by (repeat (first | rw [World.cell?_drew] | rw [World.cell?_alloc_past _ _ _ (by first | (simp; done) | (simp; omega))])); rw [World.cell?_alloc_at _ _ _ _ (by simp)]; rfl)
              have q1 := Kep.all g1 (a := ⟨w.heap.size + 1, 1, none⟩) (v := .int .i32 qy) (by (repeat (first | rw [World.cell?_drew] | rw [World.cell?_alloc_past _ _ _ (by first | (simp; done) | (simp; omega))])); rw [World.cell?_alloc_at _ _ _ _ (by simp)]; rfl)
              have c0 := Kep.all g1 (a := ⟨w.heap.size + 1 + 1, 0, none⟩) (v := .int .i32 cx) (by (repeat (first | rw [World.cell?_drew] | rw [World.cell?_alloc_past _ _ _ (by first | (simp; done) | (simp; omega))])); rw [World.cell?_alloc_at _ _ _ _ (by simp)]; rfl)
              have c1 := Kep.all g1 (a := ⟨w.heap.size + 1 + 1, 1, none⟩) (v := .int .i32 cy) (by (repeat (first | rw [World.cell?_drew] | rw [World.cell?_alloc_past _ _ _ (by first | (simp; done) | (simp; omega))])); rw [World.cell?_alloc_at _ _ _ _ (by simp)]; rfl)
              have v0 := Kep.all g1 (a := ⟨w.heap.size + 1 + 1 + 1, 0, none⟩) (v := .int .i32 vx) (by (repeat (first | rw [World.cell?_drew] | rw [World.cell?_alloc_past _ _ _ (by first | (simp; done) | (simp; omega))])); rw [World.cell?_alloc_at _ _ _ _ (by simp)]; rfl)
              have v1 := Kep.all g1 (a := ⟨w.heap.size + 1 + 1 + 1, 1, none⟩) (v := .int .i32 vy) (by (repeat (first | rw [World.cell?_drew] | rw [World.cell?_alloc_past _ _ _ (by first | (simp; done) | (simp; omega))])); rw [World.cell?_alloc_at _ _ _ _ (by simp)]; rfl)
              have gg := kep_next (kep_more (kep_more (kep_more (kep_more (Kep.refl _ _) _) _) _) _) g1
              have zp_w1 : w.heap.size < w1.heap.size := World.block_lt_of_cell? _ _ p0
              have zq_w1 : w.heap.size + 1 < w1.heap.size := World.block_lt_of_cell? _ _ q0
              have zc_w1 : w.heap.size + 1 + 1 < w1.heap.size := World.block_lt_of_cell? _ _ c0
              have zv_w1 : w.heap.size + 1 + 1 + 1 < w1.heap.size := World.block_lt_of_cell? _ _ v0))
      | ((with_reducible refine (RR.out _).mono ?_); rintro e w2 ⟨rfl, g2⟩
         replace p0 := Kep.all g2 (a := ⟨w.heap.size, 0, none⟩) (v := .int .i32 px) p0
         replace p1 := Kep.all g2 (a := ⟨w.heap.size, 1, none⟩) (v := .int .i32 py) p1
         replace q0 := Kep.all g2 (a := ⟨w.heap.size + 1, 0, none⟩) (v := .int .i32 qx) q0
         replace q1 := Kep.all g2 (a := ⟨w.heap.size + 1, 1, none⟩) (v := .int .i32 qy) q1
         replace c0 := Kep.all g2 (a := ⟨w.heap.size + 1 + 1, 0, none⟩) (v := .int .i32 cx) c0
         replace c1 := Kep.all g2 (a := ⟨w.heap.size + 1 + 1, 1, none⟩) (v := .int .i32 cy) c1
         replace v0 := Kep.all g2 (a := ⟨w.heap.size + 1 + 1 + 1, 0, none⟩) (v := .int .i32 vx) v0
         replace v1 := Kep.all g2 (a := ⟨w.heap.size + 1 + 1 + 1, 1, none⟩) (v := .int .i32 vy) v1
         replace gg := kep_next gg g2
         have zp_w2 : w.heap.size < w2.heap.size := World.block_lt_of_cell? _ _ p0
         have zq_w2 : w.heap.size + 1 < w2.heap.size := World.block_lt_of_cell? _ _ q0
         have zc_w2 : w.heap.size + 1 + 1 < w2.heap.size := World.block_lt_of_cell? _ _ c0
         have zv_w2 : w.heap.size + 1 + 1 + 1 < w2.heap.size := World.block_lt_of_cell? _ _ v0))
    go_ret
    exact ⟨rfl, gg⟩
  have c2 : decide (vy < (-1000000000 : Int)) = false := decide_eq_false k2
  have c3 : decide ((1000000000 : Int) < vy) = true := decide_eq_true (by omega)
  clear hv
  go_enter Try.func6, Try.ntmps6
  go_wp2_with (first
    | ((with_reducible refine (AW.out _).mono ?_); rintro e w1 ⟨rfl, g1⟩
       first
         | (replace gg := kep_next gg g1)
         | (have p0 := Kep.all g1 (a := ⟨w.heap.size, 0, none⟩) (v := .int .i32 px) (by (repeat (first | rw [World.cell?_drew] | rw [World.cell?_alloc_past _ _ _ (by first | (simp; done) | (simp; omega))])); rw [World.cell?_alloc_at _ _ _ _ (by simp)]; rfl)
            have p1 := Kep.all g1 (a := ⟨w.heap.size, 1, none⟩) (v := .int .i32 py) (by (repeat (first | rw [World.cell?_drew] | rw [World.cell?_alloc_past _ _ _ (by first | (simp; done) | (simp; omega))])); rw [World.cell?_alloc_at _ _ _ _ (by simp)]; rfl)
            have q0 := Kep.all g1 (a := ⟨w.heap.size + 1, 0, none⟩) (v := .int .i32 qx) (by (repeat (first | rw [World.cell?_drew] | rw [World.cell?_alloc_past _ _ _ (by first | (simp; done) | (simp; omega))])); rw [World.cell?_alloc_at _ _ _ _ (by simp)]; rfl)
            have q1 := Kep.all g1 (a := ⟨w.heap.size + 1, 1, none⟩) (v := .int .i32 qy) (by (repeat (first | rw [World.cell?_drew] | rw [World.cell?_alloc_past _ _ _ (by first | (simp; done) | (simp; omega))])); rw [World.cell?_alloc_at _ _ _ _ (by simp)]; rfl)
            have c0 := Kep.all g1 (a := ⟨w.heap.size + 1 + 1, 0, none⟩) (v := .int .i32 cx) (by (repeat (first | rw [World.cell?_drew] | rw [World.cell?_alloc_past _ _ _ (by first | (simp; done) | (simp; omega))])); rw [World.cell?_alloc_at _ _ _ _ (by simp)]; rfl)
            have c1 := Kep.all g1 (a := ⟨w.heap.size + 1 + 1, 1, none⟩) (v := .int .i32 cy) (by (repeat (first | rw [World.cell?_drew] | rw [World.cell?_alloc_past _ _ _ (by first | (simp; done) | (simp; omega))])); rw [World.cell?_alloc_at _ _ _ _ (by simp)]; rfl)
            have v0 := Kep.all g1 (a := ⟨w.heap.size + 1 + 1 + 1, 0, none⟩) (v := .int .i32 vx) (by (repeat (first | rw [World.cell?_drew] | rw [World.cell?_alloc_past _ _ _ (by first | (simp; done) | (simp; omega))])); rw [World.cell?_alloc_at _ _ _ _ (by simp)]; rfl)
            have v1 := Kep.all g1 (a := ⟨w.heap.size + 1 + 1 + 1, 1, none⟩) (v := .int .i32 vy) (by (repeat (first | rw [World.cell?_drew] | rw [World.cell?_alloc_past _ _ _ (by first | (simp; done) | (simp; omega))])); rw [World.cell?_alloc_at _ _ _ _ (by simp)]; rfl)
            have gg := kep_next (kep_more (kep_more (kep_more (kep_more (Kep.refl _ _) _) _) _) _) g1
            have zp_w1 : w.heap.size < w1.heap.size := World.block_lt_of_cell? _ _ p0
            have zq_w1 : w.heap.size + 1 < w1.heap.size := World.block_lt_of_cell? _ _ q0
            have zc_w1 : w.heap.size + 1 + 1 < w1.heap.size := World.block_lt_of_cell? _ _ c0
            have zv_w1 : w.heap.size + 1 + 1 + 1 < w1.heap.size := World.block_lt_of_cell? _ _ v0))
    | ((with_reducible refine (RR.out _).mono ?_); rintro e w2 ⟨rfl, g2⟩
       replace p0 := Kep.all g2 (a := ⟨w.heap.size, 0, none⟩) (v := .int .i32 px) p0
       replace p1 := Kep.all g2 (a := ⟨w.heap.size, 1, none⟩) (v := .int .i32 py) p1
       replace q0 := Kep.all g2 (a := ⟨w.heap.size + 1, 0, none⟩) (v := .int .i32 qx) q0
       replace q1 := Kep.all g2 (a := ⟨w.heap.size + 1, 1, none⟩) (v := .int .i32 qy) q1
       replace c0 := Kep.all g2 (a := ⟨w.heap.size + 1 + 1, 0, none⟩) (v := .int .i32 cx) c0
       replace c1 := Kep.all g2 (a := ⟨w.heap.size + 1 + 1, 1, none⟩) (v := .int .i32 cy) c1
       replace v0 := Kep.all g2 (a := ⟨w.heap.size + 1 + 1 + 1, 0, none⟩) (v := .int .i32 vx) v0
       replace v1 := Kep.all g2 (a := ⟨w.heap.size + 1 + 1 + 1, 1, none⟩) (v := .int .i32 vy) v1
       replace gg := kep_next gg g2
       have zp_w2 : w.heap.size < w2.heap.size := World.block_lt_of_cell? _ _ p0
       have zq_w2 : w.heap.size + 1 < w2.heap.size := World.block_lt_of_cell? _ _ q0
       have zc_w2 : w.heap.size + 1 + 1 < w2.heap.size := World.block_lt_of_cell? _ _ c0
       have zv_w2 : w.heap.size + 1 + 1 + 1 < w2.heap.size := World.block_lt_of_cell? _ _ v0))
  go_ret
  exact ⟨rfl, gg⟩
set_option maxRecDepth 100000 in
set_option maxHeartbeats 8000000 in
theorem nvl_ok (O : NOps) (AW : Hid NAwake) (px py qx qy cx cy vx vy : Int) (hr : rgB px py qx qy cx cy = true) (hv : (-1000000000 ≤ vx ∧ vx ≤ 1000000000) ∧ (-1000000000 ≤ vy ∧ vy ≤ 1000000000)) (w : World) : Calls Try.prog 6 #[.agg #[.int .i32 px, .int .i32 py], .agg #[.int .i32 qx, .int .i32 qy], .agg #[.int .i32 cx, .int .i32 cy], .agg #[.int .i32 vx, .int .i32 vy]] w fun e w' => e = .returned (.bool true) ∧ Kep w.heap.size w w' := by
  have H := rgB_iff.1 hr
  have RR := Lib.hid (rri px py qx qy cx cy true hr)
  obtain ⟨dx, dy, ux, uy, d, n, x, y, t, P⟩ := pt_ex px py qx qy cx cy
  obtain ⟨z, hr2⟩ : ∃ z, rgB (px + vx) (py + vy) (qx + vx) (qy + vy) (cx + vx) (cy + vy) = z := ⟨_, rfl⟩
  have R2 := rri _ _ _ _ _ _ z hr2
  obtain ⟨dx2, dy2, ux2, uy2, d2, n2, x2, y2, t2, P2⟩ := pt_ex (px + vx) (py + vy) (qx + vx) (qy + vy) (cx + vx) (cy + vy)
  have hm := pt_moved P P2
  have C1 := Lib.hid (O.near P H)
  have C2 := Lib.hid (O.dist P H)
  have HH := H
  obtain ⟨h1, h2, h3, h4, h5, h6, h7, h8⟩ := HH
  obtain ⟨b1, b2⟩ := P.box
  have M1 := mvk (px := px) (py := py) (vx := vx) (vy := vy) rfl rfl
  have M2 := mvk (px := qx) (py := qy) (vx := vx) (vy := vy) rfl rfl
  have M3 := mvk (px := cx) (py := cy) (vx := vx) (vy := vy) rfl rfl
  have M4 := mvk (px := x) (py := y) (vx := vx) (vy := vy) rfl rfl
  have w1 : IntKind.i32.wrap (px + vx) = px + vx := by rw [IntKind.wrap_i32]; unfold Cin at *; omega
  have w2 : IntKind.i32.wrap (py + vy) = py + vy := by rw [IntKind.wrap_i32]; unfold Cin at *; omega
  have w3 : IntKind.i32.wrap (qx + vx) = qx + vx := by rw [IntKind.wrap_i32]; unfold Cin at *; omega
  have w4 : IntKind.i32.wrap (qy + vy) = qy + vy := by rw [IntKind.wrap_i32]; unfold Cin at *; omega
  have w5 : IntKind.i32.wrap (cx + vx) = cx + vx := by rw [IntKind.wrap_i32]; unfold Cin at *; omega
  have w6 : IntKind.i32.wrap (cy + vy) = cy + vy := by rw [IntKind.wrap_i32]; unfold Cin at *; omega
  have w7 : IntKind.i32.wrap (x + vx) = x + vx := by rw [IntKind.wrap_i32]; unfold Cin at *; omega
  have w8 : IntKind.i32.wrap (y + vy) = y + vy := by rw [IntKind.wrap_i32]; unfold Cin at *; omega
  rw [w1, w2] at M1
  rw [w3, w4] at M2
  rw [w5, w6] at M3
  rw [w7, w8, ← hm.1, ← hm.2.1] at M4
  have C3 : z = true → PNe (px + vx) (py + vy) (qx + vx) (qy + vy) (cx + vx) (cy + vy) x2 y2 := fun hz => O.near P2 (rgB_iff.1 (hr2.trans hz))
  have C4 : z = true → PDs (px + vx) (py + vy) (qx + vx) (qy + vy) (cx + vx) (cy + vy) t := fun hz => by rw [← hm.2.2]; exact O.dist P2 (rgB_iff.1 (hr2.trans hz))
  clear hr hr2 P P2 H hm h1 h2 h3 h4 h5 h6 h7 h8 b1 b2 w1 w2 w3 w4 w5 w6 w7 w8
  generalize px + vx = ax at *
  generalize py + vy = ay at *
  generalize qx + vx = gx at *
  generalize qy + vy = gy at *
  generalize cx + vx = ex at *
  generalize cy + vy = ey at *
  replace R2 := Lib.hid R2
  replace M1 := Lib.hid M1
  replace M2 := Lib.hid M2
  replace M3 := Lib.hid M3
  replace M4 := Lib.hid M4
  replace C3 := Lib.hid C3
  replace C4 := Lib.hid C4
  have k0 : decide (vx < (-1000000000 : Int)) = false := decide_eq_false (by omega)
  have k1 : decide ((1000000000 : Int) < vx) = false := decide_eq_false (by omega)
  have k2 : decide (vy < (-1000000000 : Int)) = false := decide_eq_false (by omega)
  have k3 : decide ((1000000000 : Int) < vy) = false := decide_eq_false (by omega)
  have vv := fun w => vec_cmp x2 y2 x2 y2 true (by simp) w
  have et : (t == t) = true := by simp
  clear hv
  cases z
  · clear C3 C4
    go_enter Try.func6, Try.ntmps6
    go_wp2_with (first
      | ((with_reducible refine (AW.out _).mono ?_); rintro e w1 ⟨rfl, g1⟩
         have p0 := Kep.all g1 (a := ⟨w.heap.size, 0, none⟩) (v := .int .i32 px) (by (repeat (first | rw [World.cell?_drew] | rw [World.cell?_alloc_past _ _ _ (by first | (simp; done) | (simp; omega))])); rw [World.cell?_alloc_at _ _ _ _ (by simp)]; rfl)
         have p1 := Kep.all g1 (a := ⟨w.heap.size, 1, none⟩) (v := .int .i32 py) (by (repeat (first | rw [World.cell?_drew] | rw [World.cell?_alloc_past _ _ _ (by first | (simp; done) | (simp; omega))])); rw [World.cell?_alloc_at _ _ _ _ (by simp)]; rfl)
         have q0 := Kep.all g1 (a := ⟨w.heap.size + 1, 0, none⟩) (v := .int .i32 qx) (by (repeat (first | rw [World.cell?_drew] | rw [World.cell?_alloc_past _ _ _ (by first | (simp; done) | (simp; omega))])); rw [World.cell?_alloc_at _ _ _ _ (by simp)]; rfl)
         have q1 := Kep.all g1 (a := ⟨w.heap.size + 1, 1, none⟩) (v := .int .i32 qy) (by (repeat (first | rw [World.cell?_drew] | rw [World.cell?_alloc_past _ _ _ (by first | (simp; done) | (simp; omega))])); rw [World.cell?_alloc_at _ _ _ _ (by simp)]; rfl)
         have c0 := Kep.all g1 (a := ⟨w.heap.size + 1 + 1, 0, none⟩) (v := .int .i32 cx) (by (repeat (first | rw [World.cell?_drew] | rw [World.cell?_alloc_past _ _ _ (by first | (simp; done) | (simp; omega))])); rw [World.cell?_alloc_at _ _ _ _ (by simp)]; rfl)
         have c1 := Kep.all g1 (a := ⟨w.heap.size + 1 + 1, 1, none⟩) (v := .int .i32 cy) (by (repeat (first | rw [World.cell?_drew] | rw [World.cell?_alloc_past _ _ _ (by first | (simp; done) | (simp; omega))])); rw [World.cell?_alloc_at _ _ _ _ (by simp)]; rfl)
         have v0 := Kep.all g1 (a := ⟨w.heap.size + 1 + 1 + 1, 0, none⟩) (v := .int .i32 vx) (by (repeat (first | rw [World.cell?_drew] | rw [World.cell?_alloc_past _ _ _ (by first | (simp; done) | (simp; omega))])); rw [World.cell?_alloc_at _ _ _ _ (by simp)]; rfl)
         have v1 := Kep.all g1 (a := ⟨w.heap.size + 1 + 1 + 1, 1, none⟩) (v := .int .i32 vy) (by (repeat (first | rw [World.cell?_drew] | rw [World.cell?_alloc_past _ _ _ (by first | (simp; done) | (simp; omega))])); rw [World.cell?_alloc_at _ _ _ _ (by simp)]; rfl)
         have gg := kep_next (kep_more (kep_more (kep_more (kep_more (Kep.refl _ _) _) _) _) _) g1
         have zp_w1 : w.heap.size < w1.heap.size := World.block_lt_of_cell? _ _ p0
         have zq_w1 : w.heap.size + 1 < w1.heap.size := World.block_lt_of_cell? _ _ q0
         have zc_w1 : w.heap.size + 1 + 1 < w1.heap.size := World.block_lt_of_cell? _ _ c0
         have zv_w1 : w.heap.size + 1 + 1 + 1 < w1.heap.size := World.block_lt_of_cell? _ _ v0)
      | ((with_reducible refine (RR.out _).mono ?_); rintro e w2 ⟨rfl, g2⟩
         replace p0 := Kep.all g2 (a := ⟨w.heap.size, 0, none⟩) (v := .int .i32 px) p0
         replace p1 := Kep.all g2 (a := ⟨w.heap.size, 1, none⟩) (v := .int .i32 py) p1
         replace q0 := Kep.all g2 (a := ⟨w.heap.size + 1, 0, none⟩) (v := .int .i32 qx) q0
         replace q1 := Kep.all g2 (a := ⟨w.heap.size + 1, 1, none⟩) (v := .int .i32 qy) q1
         replace c0 := Kep.all g2 (a := ⟨w.heap.size + 1 + 1, 0, none⟩) (v := .int .i32 cx) c0
         replace c1 := Kep.all g2 (a := ⟨w.heap.size + 1 + 1, 1, none⟩) (v := .int .i32 cy) c1
         replace v0 := Kep.all g2 (a := ⟨w.heap.size + 1 + 1 + 1, 0, none⟩) (v := .int .i32 vx) v0
         replace v1 := Kep.all g2 (a := ⟨w.heap.size + 1 + 1 + 1, 1, none⟩) (v := .int .i32 vy) v1
         replace gg := kep_next gg g2
         have zp_w2 : w.heap.size < w2.heap.size := World.block_lt_of_cell? _ _ p0
         have zq_w2 : w.heap.size + 1 < w2.heap.size := World.block_lt_of_cell? _ _ q0
         have zc_w2 : w.heap.size + 1 + 1 < w2.heap.size := World.block_lt_of_cell? _ _ c0
         have zv_w2 : w.heap.size + 1 + 1 + 1 < w2.heap.size := World.block_lt_of_cell? _ _ v0)
      | ((with_reducible refine (M1.out _).mono ?_); rintro e w3 ⟨rfl, g3⟩
         replace p0 := Kep.all g3 (a := ⟨w.heap.size, 0, none⟩) (v := .int .i32 px) p0
         replace p1 := Kep.all g3 (a := ⟨w.heap.size, 1, none⟩) (v := .int .i32 py) p1
         replace q0 := Kep.all g3 (a := ⟨w.heap.size + 1, 0, none⟩) (v := .int .i32 qx) q0
         replace q1 := Kep.all g3 (a := ⟨w.heap.size + 1, 1, none⟩) (v := .int .i32 qy) q1
         replace c0 := Kep.all g3 (a := ⟨w.heap.size + 1 + 1, 0, none⟩) (v := .int .i32 cx) c0
         replace c1 := Kep.all g3 (a := ⟨w.heap.size + 1 + 1, 1, none⟩) (v := .int .i32 cy) c1
         replace v0 := Kep.all g3 (a := ⟨w.heap.size + 1 + 1 + 1, 0, none⟩) (v := .int .i32 vx) v0
         replace v1 := Kep.all g3 (a := ⟨w.heap.size + 1 + 1 + 1, 1, none⟩) (v := .int .i32 vy) v1
         replace gg := kep_next gg g3
         have zp_w3 : w.heap.size < w3.heap.size := World.block_lt_of_cell? _ _ p0
         have zq_w3 : w.heap.size + 1 < w3.heap.size := World.block_lt_of_cell? _ _ q0
         have zc_w3 : w.heap.size + 1 + 1 < w3.heap.size := World.block_lt_of_cell? _ _ c0
         have zv_w3 : w.heap.size + 1 + 1 + 1 < w3.heap.size := World.block_lt_of_cell? _ _ v0)
      | ((with_reducible refine (M2.out _).mono ?_); rintro e w4 ⟨rfl, g4⟩
         replace p0 := Kep.all g4 (a := ⟨w.heap.size, 0, none⟩) (v := .int .i32 px) (Kep.all (kep_more (Kep.refl _ _) _) p0)
         replace p1 := Kep.all g4 (a := ⟨w.heap.size, 1, none⟩) (v := .int .i32 py) (Kep.all (kep_more (Kep.refl _ _) _) p1)
         replace q0 := Kep.all g4 (a := ⟨w.heap.size + 1, 0, none⟩) (v := .int .i32 qx) (Kep.all (kep_more (Kep.refl _ _) _) q0)
         replace q1 := Kep.all g4 (a := ⟨w.heap.size + 1, 1, none⟩) (v := .int .i32 qy) (Kep.all (kep_more (Kep.refl _ _) _) q1)
         replace c0 := Kep.all g4 (a := ⟨w.heap.size + 1 + 1, 0, none⟩) (v := .int .i32 cx) (Kep.all (kep_more (Kep.refl _ _) _) c0)
         replace c1 := Kep.all g4 (a := ⟨w.heap.size + 1 + 1, 1, none⟩) (v := .int .i32 cy) (Kep.all (kep_more (Kep.refl _ _) _) c1)
         replace v0 := Kep.all g4 (a := ⟨w.heap.size + 1 + 1 + 1, 0, none⟩) (v := .int .i32 vx) (Kep.all (kep_more (Kep.refl _ _) _) v0)
         replace v1 := Kep.all g4 (a := ⟨w.heap.size + 1 + 1 + 1, 1, none⟩) (v := .int .i32 vy) (Kep.all (kep_more (Kep.refl _ _) _) v1)
         have a0 := Kep.all g4 (a := ⟨w3.heap.size, 0, none⟩) (v := .int .i32 ax) (by (repeat (first | rw [World.cell?_drew] | rw [World.cell?_alloc_past _ _ _ (by first | (simp; done) | (simp; omega))])); rw [World.cell?_alloc_at _ _ _ _ (by simp)]; rfl)
         have a1 := Kep.all g4 (a := ⟨w3.heap.size, 1, none⟩) (v := .int .i32 ay) (by (repeat (first | rw [World.cell?_drew] | rw [World.cell?_alloc_past _ _ _ (by first | (simp; done) | (simp; omega))])); rw [World.cell?_alloc_at _ _ _ _ (by simp)]; rfl)
         replace gg := kep_next (kep_more gg _) g4
         have zp_w4 : w.heap.size < w4.heap.size := World.block_lt_of_cell? _ _ p0
         have zq_w4 : w.heap.size + 1 < w4.heap.size := World.block_lt_of_cell? _ _ q0
         have zc_w4 : w.heap.size + 1 + 1 < w4.heap.size := World.block_lt_of_cell? _ _ c0
         have zv_w4 : w.heap.size + 1 + 1 + 1 < w4.heap.size := World.block_lt_of_cell? _ _ v0
         have za_w4 : w3.heap.size < w4.heap.size := World.block_lt_of_cell? _ _ a0)
      | ((with_reducible refine (M3.out _).mono ?_); rintro e w5 ⟨rfl, g5⟩
         replace p0 := Kep.all g5 (a := ⟨w.heap.size, 0, none⟩) (v := .int .i32 px) (Kep.all (kep_more (Kep.refl _ _) _) p0)
         replace p1 := Kep.all g5 (a := ⟨w.heap.size, 1, none⟩) (v := .int .i32 py) (Kep.all (kep_more (Kep.refl _ _) _) p1)
         replace q0 := Kep.all g5 (a := ⟨w.heap.size + 1, 0, none⟩) (v := .int .i32 qx) (Kep.all (kep_more (Kep.refl _ _) _) q0)
         replace q1 := Kep.all g5 (a := ⟨w.heap.size + 1, 1, none⟩) (v := .int .i32 qy) (Kep.all (kep_more (Kep.refl _ _) _) q1)
         replace c0 := Kep.all g5 (a := ⟨w.heap.size + 1 + 1, 0, none⟩) (v := .int .i32 cx) (Kep.all (kep_more (Kep.refl _ _) _) c0)
         replace c1 := Kep.all g5 (a := ⟨w.heap.size + 1 + 1, 1, none⟩) (v := .int .i32 cy) (Kep.all (kep_more (Kep.refl _ _) _) c1)
         replace v0 := Kep.all g5 (a := ⟨w.heap.size + 1 + 1 + 1, 0, none⟩) (v := .int .i32 vx) (Kep.all (kep_more (Kep.refl _ _) _) v0)
         replace v1 := Kep.all g5 (a := ⟨w.heap.size + 1 + 1 + 1, 1, none⟩) (v := .int .i32 vy) (Kep.all (kep_more (Kep.refl _ _) _) v1)
         replace a0 := Kep.all g5 (a := ⟨w3.heap.size, 0, none⟩) (v := .int .i32 ax) (Kep.all (kep_more (Kep.refl _ _) _) a0)
         replace a1 := Kep.all g5 (a := ⟨w3.heap.size, 1, none⟩) (v := .int .i32 ay) (Kep.all (kep_more (Kep.refl _ _) _) a1)
         have b0 := Kep.all g5 (a := ⟨w4.heap.size, 0, none⟩) (v := .int .i32 gx) (by (repeat (first | rw [World.cell?_drew] | rw [World.cell?_alloc_past _ _ _ (by first | (simp; done) | (simp; omega))])); rw [World.cell?_alloc_at _ _ _ _ (by simp)]; rfl)
         have b1 := Kep.all g5 (a := ⟨w4.heap.size, 1, none⟩) (v := .int .i32 gy) (by (repeat (first | rw [World.cell?_drew] | rw [World.cell?_alloc_past _ _ _ (by first | (simp; done) | (simp; omega))])); rw [World.cell?_alloc_at _ _ _ _ (by simp)]; rfl)
         replace gg := kep_next (kep_more gg _) g5
         have zp_w5 : w.heap.size < w5.heap.size := World.block_lt_of_cell? _ _ p0
         have zq_w5 : w.heap.size + 1 < w5.heap.size := World.block_lt_of_cell? _ _ q0
         have zc_w5 : w.heap.size + 1 + 1 < w5.heap.size := World.block_lt_of_cell? _ _ c0
         have zv_w5 : w.heap.size + 1 + 1 + 1 < w5.heap.size := World.block_lt_of_cell? _ _ v0
         have za_w5 : w3.heap.size < w5.heap.size := World.block_lt_of_cell? _ _ a0
         have zb_w5 : w4.heap.size < w5.heap.size := World.block_lt_of_cell? _ _ b0)
      | ((with_reducible refine (R2.out _).mono ?_); rintro e w6 ⟨rfl, g6⟩
         replace p0 := Kep.all g6 (a := ⟨w.heap.size, 0, none⟩) (v := .int .i32 px) (Kep.all (kep_more (Kep.refl _ _) _) p0)
         replace p1 := Kep.all g6 (a := ⟨w.heap.size, 1, none⟩) (v := .int .i32 py) (Kep.all (kep_more (Kep.refl _ _) _) p1)
         replace q0 := Kep.all g6 (a := ⟨w.heap.size + 1, 0, none⟩) (v := .int .i32 qx) (Kep.all (kep_more (Kep.refl _ _) _) q0)
         replace q1 := Kep.all g6 (a := ⟨w.heap.size + 1, 1, none⟩) (v := .int .i32 qy) (Kep.all (kep_more (Kep.refl _ _) _) q1)
         replace c0 := Kep.all g6 (a := ⟨w.heap.size + 1 + 1, 0, none⟩) (v := .int .i32 cx) (Kep.all (kep_more (Kep.refl _ _) _) c0)
         replace c1 := Kep.all g6 (a := ⟨w.heap.size + 1 + 1, 1, none⟩) (v := .int .i32 cy) (Kep.all (kep_more (Kep.refl _ _) _) c1)
         replace v0 := Kep.all g6 (a := ⟨w.heap.size + 1 + 1 + 1, 0, none⟩) (v := .int .i32 vx) (Kep.all (kep_more (Kep.refl _ _) _) v0)
         replace v1 := Kep.all g6 (a := ⟨w.heap.size + 1 + 1 + 1, 1, none⟩) (v := .int .i32 vy) (Kep.all (kep_more (Kep.refl _ _) _) v1)
         replace a0 := Kep.all g6 (a := ⟨w3.heap.size, 0, none⟩) (v := .int .i32 ax) (Kep.all (kep_more (Kep.refl _ _) _) a0)
         replace a1 := Kep.all g6 (a := ⟨w3.heap.size, 1, none⟩) (v := .int .i32 ay) (Kep.all (kep_more (Kep.refl _ _) _) a1)
         replace b0 := Kep.all g6 (a := ⟨w4.heap.size, 0, none⟩) (v := .int .i32 gx) (Kep.all (kep_more (Kep.refl _ _) _) b0)
         replace b1 := Kep.all g6 (a := ⟨w4.heap.size, 1, none⟩) (v := .int .i32 gy) (Kep.all (kep_more (Kep.refl _ _) _) b1)
         have e0 := Kep.all g6 (a := ⟨w5.heap.size, 0, none⟩) (v := .int .i32 ex) (by (repeat (first | rw [World.cell?_drew] | rw [World.cell?_alloc_past _ _ _ (by first | (simp; done) | (simp; omega))])); rw [World.cell?_alloc_at _ _ _ _ (by simp)]; rfl)
         have e1 := Kep.all g6 (a := ⟨w5.heap.size, 1, none⟩) (v := .int .i32 ey) (by (repeat (first | rw [World.cell?_drew] | rw [World.cell?_alloc_past _ _ _ (by first | (simp; done) | (simp; omega))])); rw [World.cell?_alloc_at _ _ _ _ (by simp)]; rfl)
         replace gg := kep_next (kep_more gg _) g6
         have zp_w6 : w.heap.size < w6.heap.size := World.block_lt_of_cell? _ _ p0
         have zq_w6 : w.heap.size + 1 < w6.heap.size := World.block_lt_of_cell? _ _ q0
         have zc_w6 : w.heap.size + 1 + 1 < w6.heap.size := World.block_lt_of_cell? _ _ c0
         have zv_w6 : w.heap.size + 1 + 1 + 1 < w6.heap.size := World.block_lt_of_cell? _ _ v0
         have za_w6 : w3.heap.size < w6.heap.size := World.block_lt_of_cell? _ _ a0
         have zb_w6 : w4.heap.size < w6.heap.size := World.block_lt_of_cell? _ _ b0
         have ze_w6 : w5.heap.size < w6.heap.size := World.block_lt_of_cell? _ _ e0))
    go_ret
    exact ⟨rfl, gg⟩
  · replace C3 := Lib.hid (C3.out rfl)
    replace C4 := Lib.hid (C4.out rfl)
    go_enter Try.func6, Try.ntmps6
    go_wp2_with (first
      | ((with_reducible refine (AW.out _).mono ?_); rintro e w1 ⟨rfl, g1⟩
         have p0 := Kep.all g1 (a := ⟨w.heap.size, 0, none⟩) (v := .int .i32 px) (by (repeat (first | rw [World.cell?_drew] | rw [World.cell?_alloc_past _ _ _ (by first | (simp; done) | (simp; omega))])); rw [World.cell?_alloc_at _ _ _ _ (by simp)]; rfl)
         have p1 := Kep.all g1 (a := ⟨w.heap.size, 1, none⟩) (v := .int .i32 py) (by (repeat (first | rw [World.cell?_drew] | rw [World.cell?_alloc_past _ _ _ (by first | (simp; done) | (simp; omega))])); rw [World.cell?_alloc_at _ _ _ _ (by simp)]; rfl)
         have q0 := Kep.all g1 (a := ⟨w.heap.size + 1, 0, none⟩) (v := .int .i32 qx) (by (repeat (first | rw [World.cell?_drew] | rw [World.cell?_alloc_past _ _ _ (by first | (simp; done) | (simp; omega))])); rw [World.cell?_alloc_at _ _ _ _ (by simp)]; rfl)
         have q1 := Kep.all g1 (a := ⟨w.heap.size + 1, 1, none⟩) (v := .int .i32 qy) (by (repeat (first | rw [World.cell?_drew] | rw [World.cell?_alloc_past _ _ _ (by first | (simp; done) | (simp; omega))])); rw [World.cell?_alloc_at _ _ _ _ (by simp)]; rfl)
         have c0 := Kep.all g1 (a := ⟨w.heap.size + 1 + 1, 0, none⟩) (v := .int .i32 cx) (by (repeat (first | rw [World.cell?_drew] | rw [World.cell?_alloc_past _ _ _ (by first | (simp; done) | (simp; omega))])); rw [World.cell?_alloc_at _ _ _ _ (by simp)]; rfl)
         have c1 := Kep.all g1 (a := ⟨w.heap.size + 1 + 1, 1, none⟩) (v := .int .i32 cy) (by (repeat (first | rw [World.cell?_drew] | rw [World.cell?_alloc_past _ _ _ (by first | (simp; done) | (simp; omega))])); rw [World.cell?_alloc_at _ _ _ _ (by simp)]; rfl)
         have v0 := Kep.all g1 (a := ⟨w.heap.size + 1 + 1 + 1, 0, none⟩) (v := .int .i32 vx) (by (repeat (first | rw [World.cell?_drew] | rw [World.cell?_alloc_past _ _ _ (by first | (simp; done) | (simp; omega))])); rw [World.cell?_alloc_at _ _ _ _ (by simp)]; rfl)
         have v1 := Kep.all g1 (a := ⟨w.heap.size + 1 + 1 + 1, 1, none⟩) (v := .int .i32 vy) (by (repeat (first | rw [World.cell?_drew] | rw [World.cell?_alloc_past _ _ _ (by first | (simp; done) | (simp; omega))])); rw [World.cell?_alloc_at _ _ _ _ (by simp)]; rfl)
         have gg := kep_next (kep_more (kep_more (kep_more (kep_more (Kep.refl _ _) _) _) _) _) g1
         have zp_w1 : w.heap.size < w1.heap.size := World.block_lt_of_cell? _ _ p0
         have zq_w1 : w.heap.size + 1 < w1.heap.size := World.block_lt_of_cell? _ _ q0
         have zc_w1 : w.heap.size + 1 + 1 < w1.heap.size := World.block_lt_of_cell? _ _ c0
         have zv_w1 : w.heap.size + 1 + 1 + 1 < w1.heap.size := World.block_lt_of_cell? _ _ v0)
      | ((with_reducible refine (RR.out _).mono ?_); rintro e w2 ⟨rfl, g2⟩
         replace p0 := Kep.all g2 (a := ⟨w.heap.size, 0, none⟩) (v := .int .i32 px) p0
         replace p1 := Kep.all g2 (a := ⟨w.heap.size, 1, none⟩) (v := .int .i32 py) p1
         replace q0 := Kep.all g2 (a := ⟨w.heap.size + 1, 0, none⟩) (v := .int .i32 qx) q0
         replace q1 := Kep.all g2 (a := ⟨w.heap.size + 1, 1, none⟩) (v := .int .i32 qy) q1
         replace c0 := Kep.all g2 (a := ⟨w.heap.size + 1 + 1, 0, none⟩) (v := .int .i32 cx) c0
         replace c1 := Kep.all g2 (a := ⟨w.heap.size + 1 + 1, 1, none⟩) (v := .int .i32 cy) c1
         replace v0 := Kep.all g2 (a := ⟨w.heap.size + 1 + 1 + 1, 0, none⟩) (v := .int .i32 vx) v0
         replace v1 := Kep.all g2 (a := ⟨w.heap.size + 1 + 1 + 1, 1, none⟩) (v := .int .i32 vy) v1
         replace gg := kep_next gg g2
         have zp_w2 : w.heap.size < w2.heap.size := World.block_lt_of_cell? _ _ p0
         have zq_w2 : w.heap.size + 1 < w2.heap.size := World.block_lt_of_cell? _ _ q0
         have zc_w2 : w.heap.size + 1 + 1 < w2.heap.size := World.block_lt_of_cell? _ _ c0
         have zv_w2 : w.heap.size + 1 + 1 + 1 < w2.heap.size := World.block_lt_of_cell? _ _ v0)
      | ((with_reducible refine (M1.out _).mono ?_); rintro e w3 ⟨rfl, g3⟩
         replace p0 := Kep.all g3 (a := ⟨w.heap.size, 0, none⟩) (v := .int .i32 px) p0
         replace p1 := Kep.all g3 (a := ⟨w.heap.size, 1, none⟩) (v := .int .i32 py) p1
         replace q0 := Kep.all g3 (a := ⟨w.heap.size + 1, 0, none⟩) (v := .int .i32 qx) q0
         replace q1 := Kep.all g3 (a := ⟨w.heap.size + 1, 1, none⟩) (v := .int .i32 qy) q1
         replace c0 := Kep.all g3 (a := ⟨w.heap.size + 1 + 1, 0, none⟩) (v := .int .i32 cx) c0
         replace c1 := Kep.all g3 (a := ⟨w.heap.size + 1 + 1, 1, none⟩) (v := .int .i32 cy) c1
         replace v0 := Kep.all g3 (a := ⟨w.heap.size + 1 + 1 + 1, 0, none⟩) (v := .int .i32 vx) v0
         replace v1 := Kep.all g3 (a := ⟨w.heap.size + 1 + 1 + 1, 1, none⟩) (v := .int .i32 vy) v1
         replace gg := kep_next gg g3
         have zp_w3 : w.heap.size < w3.heap.size := World.block_lt_of_cell? _ _ p0
         have zq_w3 : w.heap.size + 1 < w3.heap.size := World.block_lt_of_cell? _ _ q0
         have zc_w3 : w.heap.size + 1 + 1 < w3.heap.size := World.block_lt_of_cell? _ _ c0
         have zv_w3 : w.heap.size + 1 + 1 + 1 < w3.heap.size := World.block_lt_of_cell? _ _ v0)
      | ((with_reducible refine (M2.out _).mono ?_); rintro e w4 ⟨rfl, g4⟩
         replace p0 := Kep.all g4 (a := ⟨w.heap.size, 0, none⟩) (v := .int .i32 px) (Kep.all (kep_more (Kep.refl _ _) _) p0)
         replace p1 := Kep.all g4 (a := ⟨w.heap.size, 1, none⟩) (v := .int .i32 py) (Kep.all (kep_more (Kep.refl _ _) _) p1)
         replace q0 := Kep.all g4 (a := ⟨w.heap.size + 1, 0, none⟩) (v := .int .i32 qx) (Kep.all (kep_more (Kep.refl _ _) _) q0)
         replace q1 := Kep.all g4 (a := ⟨w.heap.size + 1, 1, none⟩) (v := .int .i32 qy) (Kep.all (kep_more (Kep.refl _ _) _) q1)
         replace c0 := Kep.all g4 (a := ⟨w.heap.size + 1 + 1, 0, none⟩) (v := .int .i32 cx) (Kep.all (kep_more (Kep.refl _ _) _) c0)
         replace c1 := Kep.all g4 (a := ⟨w.heap.size + 1 + 1, 1, none⟩) (v := .int .i32 cy) (Kep.all (kep_more (Kep.refl _ _) _) c1)
         replace v0 := Kep.all g4 (a := ⟨w.heap.size + 1 + 1 + 1, 0, none⟩) (v := .int .i32 vx) (Kep.all (kep_more (Kep.refl _ _) _) v0)
         replace v1 := Kep.all g4 (a := ⟨w.heap.size + 1 + 1 + 1, 1, none⟩) (v := .int .i32 vy) (Kep.all (kep_more (Kep.refl _ _) _) v1)
         have a0 := Kep.all g4 (a := ⟨w3.heap.size, 0, none⟩) (v := .int .i32 ax) (by (repeat (first | rw [World.cell?_drew] | rw [World.cell?_alloc_past _ _ _ (by first | (simp; done) | (simp; omega))])); rw [World.cell?_alloc_at _ _ _ _ (by simp)]; rfl)
         have a1 := Kep.all g4 (a := ⟨w3.heap.size, 1, none⟩) (v := .int .i32 ay) (by (repeat (first | rw [World.cell?_drew] | rw [World.cell?_alloc_past _ _ _ (by first | (simp; done) | (simp; omega))])); rw [World.cell?_alloc_at _ _ _ _ (by simp)]; rfl)
         replace gg := kep_next (kep_more gg _) g4
         have zp_w4 : w.heap.size < w4.heap.size := World.block_lt_of_cell? _ _ p0
         have zq_w4 : w.heap.size + 1 < w4.heap.size := World.block_lt_of_cell? _ _ q0
         have zc_w4 : w.heap.size + 1 + 1 < w4.heap.size := World.block_lt_of_cell? _ _ c0
         have zv_w4 : w.heap.size + 1 + 1 + 1 < w4.heap.size := World.block_lt_of_cell? _ _ v0
         have za_w4 : w3.heap.size < w4.heap.size := World.block_lt_of_cell? _ _ a0)
      | ((with_reducible refine (M3.out _).mono ?_); rintro e w5 ⟨rfl, g5⟩
         replace p0 := Kep.all g5 (a := ⟨w.heap.size, 0, none⟩) (v := .int .i32 px) (Kep.all (kep_more (Kep.refl _ _) _) p0)
         replace p1 := Kep.all g5 (a := ⟨w.heap.size, 1, none⟩) (v := .int .i32 py) (Kep.all (kep_more (Kep.refl _ _) _) p1)
         replace q0 := Kep.all g5 (a := ⟨w.heap.size + 1, 0, none⟩) (v := .int .i32 qx) (Kep.all (kep_more (Kep.refl _ _) _) q0)
         replace q1 := Kep.all g5 (a := ⟨w.heap.size + 1, 1, none⟩) (v := .int .i32 qy) (Kep.all (kep_more (Kep.refl _ _) _) q1)
         replace c0 := Kep.all g5 (a := ⟨w.heap.size + 1 + 1, 0, none⟩) (v := .int .i32 cx) (Kep.all (kep_more (Kep.refl _ _) _) c0)
         replace c1 := Kep.all g5 (a := ⟨w.heap.size + 1 + 1, 1, none⟩) (v := .int .i32 cy) (Kep.all (kep_more (Kep.refl _ _) _) c1)
         replace v0 := Kep.all g5 (a := ⟨w.heap.size + 1 + 1 + 1, 0, none⟩) (v := .int .i32 vx) (Kep.all (kep_more (Kep.refl _ _) _) v0)
         replace v1 := Kep.all g5 (a := ⟨w.heap.size + 1 + 1 + 1, 1, none⟩) (v := .int .i32 vy) (Kep.all (kep_more (Kep.refl _ _) _) v1)
         replace a0 := Kep.all g5 (a := ⟨w3.heap.size, 0, none⟩) (v := .int .i32 ax) (Kep.all (kep_more (Kep.refl _ _) _) a0)
         replace a1 := Kep.all g5 (a := ⟨w3.heap.size, 1, none⟩) (v := .int .i32 ay) (Kep.all (kep_more (Kep.refl _ _) _) a1)
         have b0 := Kep.all g5 (a := ⟨w4.heap.size, 0, none⟩) (v := .int .i32 gx) (by (repeat (first | rw [World.cell?_drew] | rw [World.cell?_alloc_past _ _ _ (by first | (simp; done) | (simp; omega))])); rw [World.cell?_alloc_at _ _ _ _ (by simp)]; rfl)
         have b1 := Kep.all g5 (a := ⟨w4.heap.size, 1, none⟩) (v := .int .i32 gy) (by (repeat (first | rw [World.cell?_drew] | rw [World.cell?_alloc_past _ _ _ (by first | (simp; done) | (simp; omega))])); rw [World.cell?_alloc_at _ _ _ _ (by simp)]; rfl)
         replace gg := kep_next (kep_more gg _) g5
         have zp_w5 : w.heap.size < w5.heap.size := World.block_lt_of_cell? _ _ p0
         have zq_w5 : w.heap.size + 1 < w5.heap.size := World.block_lt_of_cell? _ _ q0
         have zc_w5 : w.heap.size + 1 + 1 < w5.heap.size := World.block_lt_of_cell? _ _ c0
         have zv_w5 : w.heap.size + 1 + 1 + 1 < w5.heap.size := World.block_lt_of_cell? _ _ v0
         have za_w5 : w3.heap.size < w5.heap.size := World.block_lt_of_cell? _ _ a0
         have zb_w5 : w4.heap.size < w5.heap.size := World.block_lt_of_cell? _ _ b0)
      | ((with_reducible refine (R2.out _).mono ?_); rintro e w6 ⟨rfl, g6⟩
         replace p0 := Kep.all g6 (a := ⟨w.heap.size, 0, none⟩) (v := .int .i32 px) (Kep.all (kep_more (Kep.refl _ _) _) p0)
         replace p1 := Kep.all g6 (a := ⟨w.heap.size, 1, none⟩) (v := .int .i32 py) (Kep.all (kep_more (Kep.refl _ _) _) p1)
         replace q0 := Kep.all g6 (a := ⟨w.heap.size + 1, 0, none⟩) (v := .int .i32 qx) (Kep.all (kep_more (Kep.refl _ _) _) q0)
         replace q1 := Kep.all g6 (a := ⟨w.heap.size + 1, 1, none⟩) (v := .int .i32 qy) (Kep.all (kep_more (Kep.refl _ _) _) q1)
         replace c0 := Kep.all g6 (a := ⟨w.heap.size + 1 + 1, 0, none⟩) (v := .int .i32 cx) (Kep.all (kep_more (Kep.refl _ _) _) c0)
         replace c1 := Kep.all g6 (a := ⟨w.heap.size + 1 + 1, 1, none⟩) (v := .int .i32 cy) (Kep.all (kep_more (Kep.refl _ _) _) c1)
         replace v0 := Kep.all g6 (a := ⟨w.heap.size + 1 + 1 + 1, 0, none⟩) (v := .int .i32 vx) (Kep.all (kep_more (Kep.refl _ _) _) v0)
         replace v1 := Kep.all g6 (a := ⟨w.heap.size + 1 + 1 + 1, 1, none⟩) (v := .int .i32 vy) (Kep.all (kep_more (Kep.refl _ _) _) v1)
         replace a0 := Kep.all g6 (a := ⟨w3.heap.size, 0, none⟩) (v := .int .i32 ax) (Kep.all (kep_more (Kep.refl _ _) _) a0)
         replace a1 := Kep.all g6 (a := ⟨w3.heap.size, 1, none⟩) (v := .int .i32 ay) (Kep.all (kep_more (Kep.refl _ _) _) a1)
         replace b0 := Kep.all g6 (a := ⟨w4.heap.size, 0, none⟩) (v := .int .i32 gx) (Kep.all (kep_more (Kep.refl _ _) _) b0)
         replace b1 := Kep.all g6 (a := ⟨w4.heap.size, 1, none⟩) (v := .int .i32 gy) (Kep.all (kep_more (Kep.refl _ _) _) b1)
         have e0 := Kep.all g6 (a := ⟨w5.heap.size, 0, none⟩) (v := .int .i32 ex) (by (repeat (first | rw [World.cell?_drew] | rw [World.cell?_alloc_past _ _ _ (by first | (simp; done) | (simp; omega))])); rw [World.cell?_alloc_at _ _ _ _ (by simp)]; rfl)
         have e1 := Kep.all g6 (a := ⟨w5.heap.size, 1, none⟩) (v := .int .i32 ey) (by (repeat (first | rw [World.cell?_drew] | rw [World.cell?_alloc_past _ _ _ (by first | (simp; done) | (simp; omega))])); rw [World.cell?_alloc_at _ _ _ _ (by simp)]; rfl)
         replace gg := kep_next (kep_more gg _) g6
         have zp_w6 : w.heap.size < w6.heap.size := World.block_lt_of_cell? _ _ p0
         have zq_w6 : w.heap.size + 1 < w6.heap.size := World.block_lt_of_cell? _ _ q0
         have zc_w6 : w.heap.size + 1 + 1 < w6.heap.size := World.block_lt_of_cell? _ _ c0
         have zv_w6 : w.heap.size + 1 + 1 + 1 < w6.heap.size := World.block_lt_of_cell? _ _ v0
         have za_w6 : w3.heap.size < w6.heap.size := World.block_lt_of_cell? _ _ a0
         have zb_w6 : w4.heap.size < w6.heap.size := World.block_lt_of_cell? _ _ b0
         have ze_w6 : w5.heap.size < w6.heap.size := World.block_lt_of_cell? _ _ e0))
    refine wp_region_noPanic ?_
    refine wp_region_held_drew (S := (fun w' => w'.cell? ⟨w.heap.size, 0, none⟩ = some (.int .i32 px) ∧ w'.cell? ⟨w.heap.size, 1, none⟩ = some (.int .i32 py) ∧ w'.cell? ⟨w.heap.size + 1, 0, none⟩ = some (.int .i32 qx) ∧ w'.cell? ⟨w.heap.size + 1, 1, none⟩ = some (.int .i32 qy) ∧ w'.cell? ⟨w.heap.size + 1 + 1, 0, none⟩ = some (.int .i32 cx) ∧ w'.cell? ⟨w.heap.size + 1 + 1, 1, none⟩ = some (.int .i32 cy) ∧ w'.cell? ⟨w.heap.size + 1 + 1 + 1, 0, none⟩ = some (.int .i32 vx) ∧ w'.cell? ⟨w.heap.size + 1 + 1 + 1, 1, none⟩ = some (.int .i32 vy) ∧ w'.cell? ⟨w3.heap.size, 0, none⟩ = some (.int .i32 ax) ∧ w'.cell? ⟨w3.heap.size, 1, none⟩ = some (.int .i32 ay) ∧ w'.cell? ⟨w4.heap.size, 0, none⟩ = some (.int .i32 gx) ∧ w'.cell? ⟨w4.heap.size, 1, none⟩ = some (.int .i32 gy) ∧ w'.cell? ⟨w5.heap.size, 0, none⟩ = some (.int .i32 ex) ∧ w'.cell? ⟨w5.heap.size, 1, none⟩ = some (.int .i32 ey) ∧ Kep w.heap.size w w')) (by kernel_rfl) (⟨by rw [World.cell?_drew]; exact p0, by rw [World.cell?_drew]; exact p1, by rw [World.cell?_drew]; exact q0, by rw [World.cell?_drew]; exact q1, by rw [World.cell?_drew]; exact c0, by rw [World.cell?_drew]; exact c1, by rw [World.cell?_drew]; exact v0, by rw [World.cell?_drew]; exact v1, by rw [World.cell?_drew]; exact a0, by rw [World.cell?_drew]; exact a1, by rw [World.cell?_drew]; exact b0, by rw [World.cell?_drew]; exact b1, by rw [World.cell?_drew]; exact e0, by rw [World.cell?_drew]; exact e1, kep_drew gg⟩) (fun hH => ?_)
    refine wpAnyH_take (i := 0) (oi := { dst := some 56, op := Op.load 23 (Operand.tmp 9), type := _, pos := _, after := _, guard := none }) (v := ?_) rfl (by kernel_rfl) (by kernel_rfl) (by kernel_rfl) (fun _ _ _ h => h) (Or.inl ⟨by rfl, ?_⟩) hH ?_
    rotate_left
    · (intro w hSw; (try dsimp only at hSw); go_simp; (try with_reducible rfl))
    try simp only [Act.put, List.setIfInBounds_toArray, List.set_cons_zero, List.set_cons_succ]
    refine wpAnyH_take (i := 1) (oi := { dst := some 57, op := Op.load 23 (Operand.tmp 10), type := _, pos := _, after := _, guard := none }) (v := ?_) rfl (by kernel_rfl) (by kernel_rfl) (by kernel_rfl) (fun _ _ _ h => h) (Or.inl ⟨by rfl, ?_⟩) hH ?_
    rotate_left
    · (intro w hSw; (try dsimp only at hSw); go_simp; (try with_reducible rfl))
    try simp only [Act.put, List.setIfInBounds_toArray, List.set_cons_zero, List.set_cons_succ]
    refine wpAnyH_take (i := 2) (oi := { dst := some 58, op := Op.load 23 (Operand.tmp 11), type := _, pos := _, after := _, guard := none }) (v := ?_) rfl (by kernel_rfl) (by kernel_rfl) (by kernel_rfl) (fun _ _ _ h => h) (Or.inl ⟨by rfl, ?_⟩) hH ?_
    rotate_left
    · (intro w hSw; (try dsimp only at hSw); go_simp; (try with_reducible rfl))
    try simp only [Act.put, List.setIfInBounds_toArray, List.set_cons_zero, List.set_cons_succ]
    refine wpAnyH_take (i := 4) (oi := { dst := some 60, op := Op.load 23 (Operand.tmp 4), type := _, pos := _, after := _, guard := none }) (v := ?_) rfl (by kernel_rfl) (by kernel_rfl) (by kernel_rfl) (fun _ _ _ h => h) (Or.inl ⟨by rfl, ?_⟩) hH ?_
    rotate_left
    · (intro w hSw; (try dsimp only at hSw); go_simp; (try with_reducible rfl))
    try simp only [Act.put, List.setIfInBounds_toArray, List.set_cons_zero, List.set_cons_succ]
    refine wpAnyH_take (i := 5) (oi := { dst := some 61, op := Op.load 23 (Operand.tmp 5), type := _, pos := _, after := _, guard := none }) (v := ?_) rfl (by kernel_rfl) (by kernel_rfl) (by kernel_rfl) (fun _ _ _ h => h) (Or.inl ⟨by rfl, ?_⟩) hH ?_
    rotate_left
    · (intro w hSw; (try dsimp only at hSw); go_simp; (try with_reducible rfl))
    try simp only [Act.put, List.setIfInBounds_toArray, List.set_cons_zero, List.set_cons_succ]
    refine wpAnyH_take (i := 6) (oi := { dst := some 62, op := Op.load 23 (Operand.tmp 6), type := _, pos := _, after := _, guard := none }) (v := ?_) rfl (by kernel_rfl) (by kernel_rfl) (by kernel_rfl) (fun _ _ _ h => h) (Or.inl ⟨by rfl, ?_⟩) hH ?_
    rotate_left
    · (intro w hSw; (try dsimp only at hSw); go_simp; (try with_reducible rfl))
    try simp only [Act.put, List.setIfInBounds_toArray, List.set_cons_zero, List.set_cons_succ]
    refine wpAnyH_take (i := 8) (oi := { dst := some 64, op := Op.load 23 (Operand.tmp 7), type := _, pos := _, after := _, guard := none }) (v := ?_) rfl (by kernel_rfl) (by kernel_rfl) (by kernel_rfl) (fun _ _ _ h => h) (Or.inl ⟨by rfl, ?_⟩) hH ?_
    rotate_left
    · (intro w hSw; (try dsimp only at hSw); go_simp; (try with_reducible rfl))
    try simp only [Act.put, List.setIfInBounds_toArray, List.set_cons_zero, List.set_cons_succ]
    refine wpAnyH_ready (rs := [3]) (by kernel_rfl) (by simp) ?_
    refine AllReadyH.cons (o := { dst := some 59, op := Op.call { callee := Callee.value (Operand.func 13), args := #[Operand.tmp 56, Operand.tmp 57, Operand.tmp 58], argTypes := #[23, 23, 23] }, type := _, pos := _, after := _, guard := none }) rfl (fun K hK => ?_) AllReadyH.nil
    go_simp
    (with_reducible refine (C3.out _).mono ?_); rintro e v8_3 ⟨rfl, g⟩
    refine hK.out _ _ (by (try dsimp only); (go_split_ands; exact ⟨Kep.all g (by assumption), Kep.all g (by assumption), Kep.all g (by assumption), Kep.all g (by assumption), Kep.all g (by assumption), Kep.all g (by assumption), Kep.all g (by assumption), Kep.all g (by assumption), Kep.all g (by assumption), Kep.all g (by assumption), Kep.all g (by assumption), Kep.all g (by assumption), Kep.all g (by assumption), Kep.all g (by assumption), kep_next (by assumption) g⟩)) (fun hH2 => ?_)
    clear hK K hH; have hH := hH2; clear hH2
    try simp only [Act.put, List.setIfInBounds_toArray, List.set_cons_zero, List.set_cons_succ]
    refine wpAnyH_ready (rs := [7]) (by kernel_rfl) (by simp) ?_
    refine AllReadyH.cons (o := { dst := some 63, op := Op.call { callee := Callee.value (Operand.func 13), args := #[Operand.tmp 60, Operand.tmp 61, Operand.tmp 62], argTypes := #[23, 23, 23] }, type := _, pos := _, after := _, guard := none }) rfl (fun K hK => ?_) AllReadyH.nil
    go_simp
    (with_reducible refine (C1.out _).mono ?_); rintro e v8_7 ⟨rfl, g⟩
    refine hK.out _ _ (by (try dsimp only); (go_split_ands; exact ⟨Kep.all g (by assumption), Kep.all g (by assumption), Kep.all g (by assumption), Kep.all g (by assumption), Kep.all g (by assumption), Kep.all g (by assumption), Kep.all g (by assumption), Kep.all g (by assumption), Kep.all g (by assumption), Kep.all g (by assumption), Kep.all g (by assumption), Kep.all g (by assumption), Kep.all g (by assumption), Kep.all g (by assumption), kep_next (by assumption) g⟩)) (fun hH2 => ?_)
    clear hK K hH; have hH := hH2; clear hH2
    try simp only [Act.put, List.setIfInBounds_toArray, List.set_cons_zero, List.set_cons_succ]
    refine wpAnyH_ready (rs := [9]) (by kernel_rfl) (by simp) ?_
    refine AllReadyH.cons (o := { dst := some 65, op := Op.call { callee := Callee.value (Operand.func 18), args := #[Operand.tmp 63, Operand.tmp 64], argTypes := #[23, 23] }, type := _, pos := _, after := _, guard := none }) rfl (fun K hK => ?_) AllReadyH.nil
    go_simp
    (with_reducible refine (M4.out _).mono ?_); rintro e v8_9 ⟨rfl, g⟩
    refine hK.out _ _ (by (try dsimp only); (go_split_ands; exact ⟨Kep.all g (by assumption), Kep.all g (by assumption), Kep.all g (by assumption), Kep.all g (by assumption), Kep.all g (by assumption), Kep.all g (by assumption), Kep.all g (by assumption), Kep.all g (by assumption), Kep.all g (by assumption), Kep.all g (by assumption), Kep.all g (by assumption), Kep.all g (by assumption), Kep.all g (by assumption), Kep.all g (by assumption), kep_next (by assumption) g⟩)) (fun hH2 => ?_)
    clear hK K hH; have hH := hH2; clear hH2
    try simp only [Act.put, List.setIfInBounds_toArray, List.set_cons_zero, List.set_cons_succ]
    refine wpAnyH_take (i := 10) (oi := { dst := some 66, op := Op.binOp BinOp.eql 23 (Operand.tmp 59) (Operand.tmp 65) 23, type := _, pos := _, after := _, guard := none }) (v := ?_) rfl (by kernel_rfl) (by kernel_rfl) (by kernel_rfl) (fun _ _ _ h => h) (Or.inl ⟨by rfl, ?_⟩) hH ?_
    rotate_left
    · (intro w hSw; (try dsimp only at hSw); go_simp; (try with_reducible rfl))
    try simp only [Act.put, List.setIfInBounds_toArray, List.set_cons_zero, List.set_cons_succ]
    refine wpAnyH_take (i := 11) (oi := { dst := some 67, op := Op.move (Operand.tmp 66), type := _, pos := _, after := _, guard := none }) (v := ?_) rfl (by kernel_rfl) (by kernel_rfl) (by kernel_rfl) (fun _ _ _ h => h) (Or.inl ⟨by rfl, ?_⟩) hH ?_
    rotate_left
    · (intro w hSw; (try dsimp only at hSw); go_simp; (try with_reducible rfl))
    try simp only [Act.put, List.setIfInBounds_toArray, List.set_cons_zero, List.set_cons_succ]
    refine wpAnyH_take (i := 12) (oi := { dst := some 68, op := Op.load 23 (Operand.tmp 9), type := _, pos := _, after := _, guard := some (11, true) }) (v := ?_) rfl (by kernel_rfl) (by kernel_rfl) (by kernel_rfl) (fun _ _ _ h => h) (Or.inl ⟨by rfl, ?_⟩) hH ?_
    rotate_left
    · (intro w hSw; (try dsimp only at hSw); go_simp; (try with_reducible rfl))
    try simp only [Act.put, List.setIfInBounds_toArray, List.set_cons_zero, List.set_cons_succ]
    refine wpAnyH_take (i := 13) (oi := { dst := some 69, op := Op.load 23 (Operand.tmp 10), type := _, pos := _, after := _, guard := some (11, true) }) (v := ?_) rfl (by kernel_rfl) (by kernel_rfl) (by kernel_rfl) (fun _ _ _ h => h) (Or.inl ⟨by rfl, ?_⟩) hH ?_
    rotate_left
    · (intro w hSw; (try dsimp only at hSw); go_simp; (try with_reducible rfl))
    try simp only [Act.put, List.setIfInBounds_toArray, List.set_cons_zero, List.set_cons_succ]
    refine wpAnyH_take (i := 14) (oi := { dst := some 70, op := Op.load 23 (Operand.tmp 11), type := _, pos := _, after := _, guard := some (11, true) }) (v := ?_) rfl (by kernel_rfl) (by kernel_rfl) (by kernel_rfl) (fun _ _ _ h => h) (Or.inl ⟨by rfl, ?_⟩) hH ?_
    rotate_left
    · (intro w hSw; (try dsimp only at hSw); go_simp; (try with_reducible rfl))
    try simp only [Act.put, List.setIfInBounds_toArray, List.set_cons_zero, List.set_cons_succ]
    refine wpAnyH_take (i := 16) (oi := { dst := some 72, op := Op.load 23 (Operand.tmp 4), type := _, pos := _, after := _, guard := some (11, true) }) (v := ?_) rfl (by kernel_rfl) (by kernel_rfl) (by kernel_rfl) (fun _ _ _ h => h) (Or.inl ⟨by rfl, ?_⟩) hH ?_
    rotate_left
    · (intro w hSw; (try dsimp only at hSw); go_simp; (try with_reducible rfl))
    try simp only [Act.put, List.setIfInBounds_toArray, List.set_cons_zero, List.set_cons_succ]
    refine wpAnyH_take (i := 17) (oi := { dst := some 73, op := Op.load 23 (Operand.tmp 5), type := _, pos := _, after := _, guard := some (11, true) }) (v := ?_) rfl (by kernel_rfl) (by kernel_rfl) (by kernel_rfl) (fun _ _ _ h => h) (Or.inl ⟨by rfl, ?_⟩) hH ?_
    rotate_left
    · (intro w hSw; (try dsimp only at hSw); go_simp; (try with_reducible rfl))
    try simp only [Act.put, List.setIfInBounds_toArray, List.set_cons_zero, List.set_cons_succ]
    refine wpAnyH_take (i := 18) (oi := { dst := some 74, op := Op.load 23 (Operand.tmp 6), type := _, pos := _, after := _, guard := some (11, true) }) (v := ?_) rfl (by kernel_rfl) (by kernel_rfl) (by kernel_rfl) (fun _ _ _ h => h) (Or.inl ⟨by rfl, ?_⟩) hH ?_
    rotate_left
    · (intro w hSw; (try dsimp only at hSw); go_simp; (try with_reducible rfl))
    try simp only [Act.put, List.setIfInBounds_toArray, List.set_cons_zero, List.set_cons_succ]
    refine wpAnyH_ready (rs := [15]) (by kernel_rfl) (by simp) ?_
    refine AllReadyH.cons (o := { dst := some 71, op := Op.call { callee := Callee.value (Operand.func 15), args := #[Operand.tmp 68, Operand.tmp 69, Operand.tmp 70], argTypes := #[23, 23, 23] }, type := _, pos := _, after := _, guard := some (11, true) }) rfl (fun K hK => ?_) AllReadyH.nil
    go_simp
    (with_reducible refine (C4.out _).mono ?_); rintro e v8_15 ⟨rfl, g⟩
    refine hK.out _ _ (by (try dsimp only); (go_split_ands; exact ⟨Kep.all g (by assumption), Kep.all g (by assumption), Kep.all g (by assumption), Kep.all g (by assumption), Kep.all g (by assumption), Kep.all g (by assumption), Kep.all g (by assumption), Kep.all g (by assumption), Kep.all g (by assumption), Kep.all g (by assumption), Kep.all g (by assumption), Kep.all g (by assumption), Kep.all g (by assumption), Kep.all g (by assumption), kep_next (by assumption) g⟩)) (fun hH2 => ?_)
    clear hK K hH; have hH := hH2; clear hH2
    try simp only [Act.put, List.setIfInBounds_toArray, List.set_cons_zero, List.set_cons_succ]
    refine wpAnyH_ready (rs := [19]) (by kernel_rfl) (by simp) ?_
    refine AllReadyH.cons (o := { dst := some 75, op := Op.call { callee := Callee.value (Operand.func 15), args := #[Operand.tmp 72, Operand.tmp 73, Operand.tmp 74], argTypes := #[23, 23, 23] }, type := _, pos := _, after := _, guard := some (11, true) }) rfl (fun K hK => ?_) AllReadyH.nil
    go_simp
    (with_reducible refine (C2.out _).mono ?_); rintro e v8_19 ⟨rfl, g⟩
    refine hK.out _ _ (by (try dsimp only); (go_split_ands; exact ⟨Kep.all g (by assumption), Kep.all g (by assumption), Kep.all g (by assumption), Kep.all g (by assumption), Kep.all g (by assumption), Kep.all g (by assumption), Kep.all g (by assumption), Kep.all g (by assumption), Kep.all g (by assumption), Kep.all g (by assumption), Kep.all g (by assumption), Kep.all g (by assumption), Kep.all g (by assumption), Kep.all g (by assumption), kep_next (by assumption) g⟩)) (fun hH2 => ?_)
    clear hK K hH; have hH := hH2; clear hH2
    try simp only [Act.put, List.setIfInBounds_toArray, List.set_cons_zero, List.set_cons_succ]
    refine wpAnyH_take (i := 20) (oi := { dst := some 76, op := Op.binOp BinOp.eql 31 (Operand.tmp 71) (Operand.tmp 75) 31, type := _, pos := _, after := _, guard := some (11, true) }) (v := ?_) rfl (by kernel_rfl) (by kernel_rfl) (by kernel_rfl) (fun _ _ _ h => h) (Or.inl ⟨by rfl, ?_⟩) hH ?_
    rotate_left
    · (intro w hSw; (try dsimp only at hSw); go_simp; (try with_reducible rfl))
    try simp only [Act.put, List.setIfInBounds_toArray, List.set_cons_zero, List.set_cons_succ]
    refine wpAnyH_take (i := 21) (oi := { dst := some 77, op := Op.pick (Operand.tmp 67) (Operand.tmp 76) (Operand.const (Value.bool false)), type := _, pos := _, after := _, guard := none }) (v := ?_) rfl (by kernel_rfl) (by kernel_rfl) (by kernel_rfl) (fun _ _ _ h => h) (Or.inl ⟨by rfl, ?_⟩) hH ?_
    rotate_left
    · (intro w hSw; (try dsimp only at hSw); go_simp; (try with_reducible rfl))
    try simp only [Act.put, List.setIfInBounds_toArray, List.set_cons_zero, List.set_cons_succ]
    refine wpAnyH_take (i := 22) (oi := { dst := some 8, op := Op.assign (Operand.tmp 77), type := _, pos := _, after := _, guard := none }) (v := ?_) rfl (by kernel_rfl) (by kernel_rfl) (by kernel_rfl) (fun _ _ _ h => h) (Or.inl ⟨by rfl, ?_⟩) hH ?_
    rotate_left
    · (intro w hSw; (try dsimp only at hSw); go_simp; (try with_reducible rfl))
    try simp only [Act.put, List.setIfInBounds_toArray, List.set_cons_zero, List.set_cons_succ]
    refine wpAnyH_done (by kernel_rfl) ?_ _
    refine NoPanic.normal ?_
    clear p0 p1 q0 q1 c0 c1 v0 v1 a0 a1 b0 b1 e0 e1 gg
    obtain ⟨p0, p1, q0, q1, c0, c1, v0, v1, a0, a1, b0, b1, e0, e1, gg⟩ := hH
    go_wp2_with fail
    go_ret
    exact ⟨rfl, gg⟩
/-- The law PointMoves. -/
theorem nvl_law (O : NOps) (AW : NAwake) (px py qx qy cx cy vx vy : Int) (w : World) : Calls Try.prog 6 #[.agg #[.int .i32 px, .int .i32 py], .agg #[.int .i32 qx, .int .i32 qy], .agg #[.int .i32 cx, .int .i32 cy], .agg #[.int .i32 vx, .int .i32 vy]] w fun e w' => e = .returned (.bool true) ∧ Kep w.heap.size w w' := by
  cases hr : rgB px py qx qy cx cy
  · exact nvl_bad (Lib.hid AW) px py qx qy cx cy vx vy hr w
  · by_cases hv : (-1000000000 ≤ vx ∧ vx ≤ 1000000000) ∧ (-1000000000 ≤ vy ∧ vy ≤ 1000000000)
    · exact nvl_ok O (Lib.hid AW) px py qx qy cx cy vx vy hr hv w
    · exact nvl_out (Lib.hid AW) px py qx qy cx cy vx vy hr hv w
end Go.Proofs.Ytlmggjgbcdakgaa
