/-
  Package point: the law PointNearest.
-/
import Derived.Test.YtlmggjgbcdakgaaPointLawM
import Derived.Deep.DeepCutAuto
import Derived.Deep.QuietTactic
import Derived.BigQuiet
namespace Go.Proofs.Ytlmggjgbcdakgaa
open Go.RowKit Go.Lib

abbrev DSt (ax ay b1 b2 r : Int) : Prop := ∀ w, Calls Try.prog 17 #[.agg #[.int .i32 ax, .int .i32 ay], .agg #[.int .i32 b1, .int .i32 b2]] w fun e w' => e = .returned (.int .i64 r) ∧ Kep w.heap.size w w'
set_option maxRecDepth 100000 in
set_option maxHeartbeats 1000000 in
theorem dst {ax ay b1 b2 r : Int} (h1 : Cin ax) (h2 : Cin ay) (h3 : Cin b1) (h4 : Cin b2) (hr : IsRoot r (lsq (b1 - ax) (b2 - ay))) : DSt ax ay b1 b2 r := fun w => by
  have C := Lib.hid (rlen2 (by unfold Cin at *; unfold InD; omega) (by unfold Cin at *; unfold InD; omega) hr)
  have e0 : IntKind.i64.wrap ax = ax := by rw [IntKind.wrap_i64]; omega
  have e1 : IntKind.i64.wrap ay = ay := by rw [IntKind.wrap_i64]; omega
  have e2 : IntKind.i64.wrap b1 = b1 := by rw [IntKind.wrap_i64]; omega
  have e3 : IntKind.i64.wrap b2 = b2 := by rw [IntKind.wrap_i64]; omega
  have e4 : IntKind.i64.wrap (b1 - ax) = b1 - ax := by rw [IntKind.wrap_i64]; omega
  have e5 : IntKind.i64.wrap (b2 - ay) = b2 - ay := by rw [IntKind.wrap_i64]; omega
  clear h1 h2 h3 h4 hr
  go_enter Try.func17, Try.ntmps17
  go_wp2_with (first
    | ((with_reducible refine (C.out _).mono ?_); rintro e w2 ⟨rfl, rfl⟩))
  go_ret
  exact ⟨rfl, (kep_more (kep_more (Kep.refl _ _) _) _)⟩
theorem lsq_nn (a b : Int) : 0 ≤ lsq a b := sqP_nn a b
theorem root_small {a b r : Int} (h : IsRoot r (lsq a b)) (ha : InD a) (hb : InD b) : 0 ≤ r ∧ r < 4294967296 := by
  refine ⟨h.1, ?_⟩
  have h1 := (lsq_in ha hb).2
  apply Int.not_le.1
  intro q
  have := sq_le (a := 4294967296) (b := r) (by decide) q
  have := h.2.1
  omega
theorem near_root {px py qx qy cx cy dx dy ux uy d n x y t r0 r1 : Int} (P : Pt px py qx qy cx cy dx dy ux uy d n x y t) (h0 : IsRoot r0 (lsq (cx - x) (cy - y))) (h1 : IsRoot r1 (lsq ux uy)) : r0 ≤ r1 + 2 := by
  have a := near_len (ux := ux) (uy := uy) (dx := dx) (dy := dy) (r := r1) h1.2.2 h1.1
  rw [P.hn, P.hd] at a
  have b1 := P.hX
  have b2 := P.hY
  have b3 := P.hu
  have b4 := P.hv
  have e1 : cx - x = -(stP dx n d - ux) := by omega
  have e2 : cy - y = -(stP dy n d - uy) := by omega
  have c := h0.2.1
  unfold lsq at c
  rw [e1, e2, Int.neg_mul_neg, Int.neg_mul_neg] at c
  have h : r0 * r0 < (r1 + 3) * (r1 + 3) := by omega
  apply Int.not_lt.1
  intro q
  have := sq_le (a := r1 + 3) (b := r0) (by have := h1.1; omega) (by omega)
  omega
set_option maxRecDepth 100000 in
set_option maxHeartbeats 2000000 in
theorem nnl_bad (AW : Hid NAwake) (px py qx qy cx cy : Int) (hr : rgB px py qx qy cx cy = false) (w : World) : Calls Try.prog 4 #[.agg #[.int .i32 px, .int .i32 py], .agg #[.int .i32 qx, .int .i32 qy], .agg #[.int .i32 cx, .int .i32 cy]] w fun e w' => e = .returned (.bool true) ∧ Kep w.heap.size w w' := by
  have RR := Lib.hid (rri px py qx qy cx cy false hr)
  clear hr
  go_enter Try.func4, Try.ntmps4
  go_wp2_with (first
    | ((with_reducible refine (AW.out _).mono ?_); rintro e w1 ⟨rfl, g1⟩
       first
         | (replace gg := kep_next gg g1)
         | (have p0 := Kep.all g1 (a := ⟨w.heap.size, 0, none⟩) (v := .int .i32 px) (by (repeat (first | rw [World.cell?_drew] | rw [World.cell?_alloc_past _ _ _ (by first | (simp; done) | (simp; omega))])); rw [World.cell?_alloc_at _ _ _ _ (by simp)]; rfl)
            have p1 := Kep.all g1 (a := ⟨w.heap.size, 1, none⟩) (v := .int .i32 py) (by (repeat (first | rw [World.cell?_drew] | rw [World.cell?_alloc_past _ _ _ (by first | (simp; done) | (simp; omega))])); rw [World.cell?_alloc_at _ _ _ _ (by simp)]; rfl)
            have q0 := Kep.all g1 (a := ⟨w.heap.size + 1, 0, none⟩) (v := .int .i32 qx) (by (repeat (first | rw [World.cell?_drew] | rw [World.cell?_alloc_past _ _ _ (by first | (simp; done) | (simp; omega))])); rw [World.cell?_alloc_at _ _ _ _ (by simp)]; rfl)
            have q1 := Kep.all g1 (a := ⟨w.heap.size + 1, 1, none⟩) (v := .int .i32 qy) (by (repeat (first | rw [World.cell?_drew] | rw [World.cell?_alloc_past _ _ _ (by first | (simp; done) | (simp; omega))])); rw [World.cell?_alloc_at _ _ _ _ (by simp)]; rfl)
            have c0 := Kep.all g1 (a := ⟨w.heap.size + 1 + 1, 0, none⟩) (v := .int .i32 cx) (by (repeat (first | rw [World.cell?_drew] | rw [World.cell?_alloc_past _ _ _ (by first | (simp; done) | (simp; omega))])); rw [World.cell?_alloc_at _ _ _ _ (by simp)]; rfl)
            have c1 := Kep.all g1 (a := ⟨w.heap.size + 1 + 1, 1, none⟩) (v := .int .i32 cy) (by (repeat (first | rw [World.cell?_drew] | rw [World.cell?_alloc_past _ _ _ (by first | (simp; done) | (simp; omega))])); rw [World.cell?_alloc_at _ _ _ _ (by simp)]; rfl)
            have gg := kep_next (kep_more (kep_more (kep_more (Kep.refl _ _) _) _) _) g1
            have zp_w1 : w.heap.size < w1.heap.size := World.block_lt_of_cell? _ _ p0
            have zq_w1 : w.heap.size + 1 < w1.heap.size := World.block_lt_of_cell? _ _ q0
            have zc_w1 : w.heap.size + 1 + 1 < w1.heap.size := World.block_lt_of_cell? _ _ c0))
    | ((with_reducible refine (RR.out _).mono ?_); rintro e w2 ⟨rfl, g2⟩
       replace p0 := Kep.all g2 (a := ⟨w.heap.size, 0, none⟩) (v := .int .i32 px) p0
       replace p1 := Kep.all g2 (a := ⟨w.heap.size, 1, none⟩) (v := .int .i32 py) p1
       replace q0 := Kep.all g2 (a := ⟨w.heap.size + 1, 0, none⟩) (v := .int .i32 qx) q0
       replace q1 := Kep.all g2 (a := ⟨w.heap.size + 1, 1, none⟩) (v := .int .i32 qy) q1
       replace c0 := Kep.all g2 (a := ⟨w.heap.size + 1 + 1, 0, none⟩) (v := .int .i32 cx) c0
       replace c1 := Kep.all g2 (a := ⟨w.heap.size + 1 + 1, 1, none⟩) (v := .int .i32 cy) c1
       replace gg := kep_next gg g2
       have zp_w2 : w.heap.size < w2.heap.size := World.block_lt_of_cell? _ _ p0
       have zq_w2 : w.heap.size + 1 < w2.heap.size := World.block_lt_of_cell? _ _ q0
       have zc_w2 : w.heap.size + 1 + 1 < w2.heap.size := World.block_lt_of_cell? _ _ c0))
  go_ret
  exact ⟨rfl, gg⟩
set_option maxRecDepth 100000 in
set_option maxHeartbeats 4000000 in
theorem nnl_ok (O : NOps) (AW : Hid NAwake) (px py qx qy cx cy : Int) (hr : rgB px py qx qy cx cy = true) (w : World) : Calls Try.prog 4 #[.agg #[.int .i32 px, .int .i32 py], .agg #[.int .i32 qx, .int .i32 qy], .agg #[.int .i32 cx, .int .i32 cy]] w fun e w' => e = .returned (.bool true) ∧ Kep w.heap.size w w' := by
  have H := rgB_iff.1 hr
  have RR := Lib.hid (rri px py qx qy cx cy true hr)
  obtain ⟨dx, dy, ux, uy, d, n, x, y, t, P⟩ := pt_ex px py qx qy cx cy
  have H2 : Rg qx qy px py cx cy := ⟨H.hqx, H.hqy, H.hpx, H.hpy, H.hcx, H.hcy, by have := H.hdx; unfold Din at *; omega, by have := H.hdy; unfold Din at *; omega⟩
  obtain ⟨dx2, dy2, ux2, uy2, d2, n2, x2, y2, t2, P2⟩ := pt_ex qx qy px py cx cy
  have hxy := turn_eq P P2
  rw [← hxy.1, ← hxy.2] at P2
  obtain ⟨b1, b2⟩ := P.box
  have HH := H
  obtain ⟨h1, h2, h3, h4, h5, h6, h7, h8⟩ := HH
  have hx : Cin x := by unfold Cin at *; omega
  have hy : Cin y := by unfold Cin at *; omega
  have hu := P.hu
  have hv := P.hv
  have hu2 := P2.hu
  have hv2 := P2.hv
  have k0 := rt_is (lsq_nn (cx - x) (cy - y))
  have k1 := rt_is (lsq_nn ux uy)
  have k2 := rt_is (lsq_nn ux2 uy2)
  generalize rt (lsq (cx - x) (cy - y)) = r0 at *
  generalize rt (lsq ux uy) = r1 at *
  generalize rt (lsq ux2 uy2) = r2 at *
  have n1 := near_root P k0 k1
  have n2 := near_root P2 k0 k2
  have D0 := Lib.hid (dst hx hy h5 h6 k0)
  have D1 := Lib.hid (dst h1 h2 h5 h6 (by rw [hu, hv]; exact k1))
  have D2 := Lib.hid (dst h3 h4 h5 h6 (by rw [hu2, hv2]; exact k2))
  have l1 := root_small k1 (by unfold InD Cin at *; omega) (by unfold InD Cin at *; omega)
  have l2 := root_small k2 (by unfold InD Cin at *; omega) (by unfold InD Cin at *; omega)
  have C2 := Lib.hid (O.near P H)
  have f1 : IntKind.i64.wrap (r1 + 2) = r1 + 2 := by rw [IntKind.wrap_i64]; omega
  have f2 : IntKind.i64.wrap (r2 + 2) = r2 + 2 := by rw [IntKind.wrap_i64]; omega
  have f3 : decide (r0 ≤ r1 + 2) = true := decide_eq_true n1
  have f4 : decide (r0 ≤ r2 + 2) = true := decide_eq_true n2
  generalize hlx : min px qx = lx at b1
  generalize hmx : max px qx = mx at b1
  generalize hly : min py qy = ly at b2
  generalize hmy : max py qy = my at b2
  have d1 : decide (x < lx) = false := decide_eq_false (by omega)
  have d2 : decide (mx < x) = false := decide_eq_false (by omega)
  have d3 : decide (y < ly) = false := decide_eq_false (by omega)
  have d4 : decide (my < y) = false := decide_eq_false (by omega)
  clear hr P H H2 P2 hxy h1 h2 h3 h4 h5 h6 h7 h8 hx hy hu hv hu2 hv2 k0 k1 k2 n1 n2 l1 l2 b1 b2
  go_enter Try.func4, Try.ntmps4
  go_wp2_with (first
    | ((with_reducible refine (AW.out _).mono ?_); rintro e w1 ⟨rfl, g1⟩
       have p0 := Kep.all g1 (a := ⟨w.heap.size, 0, none⟩) (v := .int .i32 px) (by (repeat (first | rw [World.cell?_drew] | rw [World.cell?_alloc_past _ _ _ (by first | (simp; done) | (simp; omega))])); rw [World.cell?_alloc_at _ _ _ _ (by simp)]; rfl)
       have p1 := Kep.all g1 (a := ⟨w.heap.size, 1, none⟩) (v := .int .i32 py) (by (repeat (first | rw [World.cell?_drew] | rw [World.cell?_alloc_past _ _ _ (by first | (simp; done) | (simp; omega))])); rw [World.cell?_alloc_at _ _ _ _ (by simp)]; rfl)
       have q0 := Kep.all g1 (a := ⟨w.heap.size + 1, 0, none⟩) (v := .int .i32 qx) (by (repeat (first | rw [World.cell?_drew] | rw [World.cell?_alloc_past _ _ _ (by first | (simp; done) | (simp; omega))])); rw [World.cell?_alloc_at _ _ _ _ (by simp)]; rfl)
       have q1 := Kep.all g1 (a := ⟨w.heap.size + 1, 1, none⟩) (v := .int .i32 qy) (by (repeat (first | rw [World.cell?_drew] | rw [World.cell?_alloc_past _ _ _ (by first | (simp; done) | (simp; omega))])); rw [World.cell?_alloc_at _ _ _ _ (by simp)]; rfl)
       have c0 := Kep.all g1 (a := ⟨w.heap.size + 1 + 1, 0, none⟩) (v := .int .i32 cx) (by (repeat (first | rw [World.cell?_drew] | rw [World.cell?_alloc_past _ _ _ (by first | (simp; done) | (simp; omega))])); rw [World.cell?_alloc_at _ _ _ _ (by simp)]; rfl)
       have c1 := Kep.all g1 (a := ⟨w.heap.size + 1 + 1, 1, none⟩) (v := .int .i32 cy) (by (repeat (first | rw [World.cell?_drew] | rw [World.cell?_alloc_past _ _ _ (by first | (simp; done) | (simp; omega))])); rw [World.cell?_alloc_at _ _ _ _ (by simp)]; rfl)
       have gg := kep_next (kep_more (kep_more (kep_more (Kep.refl _ _) _) _) _) g1
       have zp_w1 : w.heap.size < w1.heap.size := World.block_lt_of_cell? _ _ p0
       have zq_w1 : w.heap.size + 1 < w1.heap.size := World.block_lt_of_cell? _ _ q0
       have zc_w1 : w.heap.size + 1 + 1 < w1.heap.size := World.block_lt_of_cell? _ _ c0)
    | ((with_reducible refine (RR.out _).mono ?_); rintro e w2 ⟨rfl, g2⟩
       replace p0 := Kep.all g2 (a := ⟨w.heap.size, 0, none⟩) (v := .int .i32 px) p0
       replace p1 := Kep.all g2 (a := ⟨w.heap.size, 1, none⟩) (v := .int .i32 py) p1
       replace q0 := Kep.all g2 (a := ⟨w.heap.size + 1, 0, none⟩) (v := .int .i32 qx) q0
       replace q1 := Kep.all g2 (a := ⟨w.heap.size + 1, 1, none⟩) (v := .int .i32 qy) q1
       replace c0 := Kep.all g2 (a := ⟨w.heap.size + 1 + 1, 0, none⟩) (v := .int .i32 cx) c0
       replace c1 := Kep.all g2 (a := ⟨w.heap.size + 1 + 1, 1, none⟩) (v := .int .i32 cy) c1
       replace gg := kep_next gg g2
       have zp_w2 : w.heap.size < w2.heap.size := World.block_lt_of_cell? _ _ p0
       have zq_w2 : w.heap.size + 1 < w2.heap.size := World.block_lt_of_cell? _ _ q0
       have zc_w2 : w.heap.size + 1 + 1 < w2.heap.size := World.block_lt_of_cell? _ _ c0)
    | ((with_reducible refine (C2.out _).mono ?_); rintro e w3 ⟨rfl, g3⟩
       replace p0 := Kep.all g3 (a := ⟨w.heap.size, 0, none⟩) (v := .int .i32 px) p0
       replace p1 := Kep.all g3 (a := ⟨w.heap.size, 1, none⟩) (v := .int .i32 py) p1
       replace q0 := Kep.all g3 (a := ⟨w.heap.size + 1, 0, none⟩) (v := .int .i32 qx) q0
       replace q1 := Kep.all g3 (a := ⟨w.heap.size + 1, 1, none⟩) (v := .int .i32 qy) q1
       replace c0 := Kep.all g3 (a := ⟨w.heap.size + 1 + 1, 0, none⟩) (v := .int .i32 cx) c0
       replace c1 := Kep.all g3 (a := ⟨w.heap.size + 1 + 1, 1, none⟩) (v := .int .i32 cy) c1
       replace gg := kep_next gg g3
       have zp_w3 : w.heap.size < w3.heap.size := World.block_lt_of_cell? _ _ p0
       have zq_w3 : w.heap.size + 1 < w3.heap.size := World.block_lt_of_cell? _ _ q0
       have zc_w3 : w.heap.size + 1 + 1 < w3.heap.size := World.block_lt_of_cell? _ _ c0)
    | ((with_reducible refine (D0.out _).mono ?_); rintro e w4 ⟨rfl, g4⟩
       replace p0 := Kep.all g4 (a := ⟨w.heap.size, 0, none⟩) (v := .int .i32 px) (Kep.all (kep_more (Kep.refl _ _) _) p0)
       replace p1 := Kep.all g4 (a := ⟨w.heap.size, 1, none⟩) (v := .int .i32 py) (Kep.all (kep_more (Kep.refl _ _) _) p1)
       replace q0 := Kep.all g4 (a := ⟨w.heap.size + 1, 0, none⟩) (v := .int .i32 qx) (Kep.all (kep_more (Kep.refl _ _) _) q0)
       replace q1 := Kep.all g4 (a := ⟨w.heap.size + 1, 1, none⟩) (v := .int .i32 qy) (Kep.all (kep_more (Kep.refl _ _) _) q1)
       replace c0 := Kep.all g4 (a := ⟨w.heap.size + 1 + 1, 0, none⟩) (v := .int .i32 cx) (Kep.all (kep_more (Kep.refl _ _) _) c0)
       replace c1 := Kep.all g4 (a := ⟨w.heap.size + 1 + 1, 1, none⟩) (v := .int .i32 cy) (Kep.all (kep_more (Kep.refl _ _) _) c1)
       have m0 := Kep.all g4 (a := ⟨w3.heap.size, 0, none⟩) (v := .int .i32 x) (by (repeat (first | rw [World.cell?_drew] | rw [World.cell?_alloc_past _ _ _ (by first | (simp; done) | (simp; omega))])); rw [World.cell?_alloc_at _ _ _ _ (by simp)]; rfl)
       have m1 := Kep.all g4 (a := ⟨w3.heap.size, 1, none⟩) (v := .int .i32 y) (by (repeat (first | rw [World.cell?_drew] | rw [World.cell?_alloc_past _ _ _ (by first | (simp; done) | (simp; omega))])); rw [World.cell?_alloc_at _ _ _ _ (by simp)]; rfl)
       replace gg := kep_next (kep_more gg _) g4
       have zp_w4 : w.heap.size < w4.heap.size := World.block_lt_of_cell? _ _ p0
       have zq_w4 : w.heap.size + 1 < w4.heap.size := World.block_lt_of_cell? _ _ q0
       have zc_w4 : w.heap.size + 1 + 1 < w4.heap.size := World.block_lt_of_cell? _ _ c0
       have zm_w4 : w3.heap.size < w4.heap.size := World.block_lt_of_cell? _ _ m0)
    | ((with_reducible refine (D1.out _).mono ?_); rintro e w5 ⟨rfl, g5⟩
       replace p0 := Kep.all g5 (a := ⟨w.heap.size, 0, none⟩) (v := .int .i32 px) p0
       replace p1 := Kep.all g5 (a := ⟨w.heap.size, 1, none⟩) (v := .int .i32 py) p1
       replace q0 := Kep.all g5 (a := ⟨w.heap.size + 1, 0, none⟩) (v := .int .i32 qx) q0
       replace q1 := Kep.all g5 (a := ⟨w.heap.size + 1, 1, none⟩) (v := .int .i32 qy) q1
       replace c0 := Kep.all g5 (a := ⟨w.heap.size + 1 + 1, 0, none⟩) (v := .int .i32 cx) c0
       replace c1 := Kep.all g5 (a := ⟨w.heap.size + 1 + 1, 1, none⟩) (v := .int .i32 cy) c1
       replace m0 := Kep.all g5 (a := ⟨w3.heap.size, 0, none⟩) (v := .int .i32 x) m0
       replace m1 := Kep.all g5 (a := ⟨w3.heap.size, 1, none⟩) (v := .int .i32 y) m1
       replace gg := kep_next gg g5
       have zp_w5 : w.heap.size < w5.heap.size := World.block_lt_of_cell? _ _ p0
       have zq_w5 : w.heap.size + 1 < w5.heap.size := World.block_lt_of_cell? _ _ q0
       have zc_w5 : w.heap.size + 1 + 1 < w5.heap.size := World.block_lt_of_cell? _ _ c0
       have zm_w5 : w3.heap.size < w5.heap.size := World.block_lt_of_cell? _ _ m0)
    | ((with_reducible refine (D2.out _).mono ?_); rintro e w6 ⟨rfl, g6⟩
       replace gg := kep_next gg g6))
  go_ret
  exact ⟨rfl, gg⟩
/-- The law PointNearest. -/
theorem nnl_law (O : NOps) (AW : NAwake) (px py qx qy cx cy : Int) (w : World) : Calls Try.prog 4 #[.agg #[.int .i32 px, .int .i32 py], .agg #[.int .i32 qx, .int .i32 qy], .agg #[.int .i32 cx, .int .i32 cy]] w fun e w' => e = .returned (.bool true) ∧ Kep w.heap.size w w' := by
  cases hr : rgB px py qx qy cx cy
  · exact nnl_bad (Lib.hid AW) px py qx qy cx cy hr w
  · exact nnl_ok O (Lib.hid AW) px py qx qy cx cy hr w
end Go.Proofs.Ytlmggjgbcdakgaa
