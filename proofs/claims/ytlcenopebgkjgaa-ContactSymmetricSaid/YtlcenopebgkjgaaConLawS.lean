/-
  Package contact: the law ContactSymmetric.
-/
import Derived.Test.YtlcenopebgkjgaaConCon
import Derived.Deep.DeepCutAuto
import Derived.Deep.QuietTactic
import Derived.BigQuiet
namespace Go.Proofs.Ytlcenopebgkjgaa
open Go.RowKit Go.Lib

theorem lsq_neg (a b c d : Int) : lsq (a - b) (c - d) = lsq (b - a) (d - c) := by unfold lsq; grind
theorem sym_pq {p q : Bd} (hp : okC p) (hq : okC q) (c1 : p.ax = 0 ∧ p.ay = 0) (c2 : q.ax = 0 ∧ q.ay = 0) (hd : ¬ (p.px = q.px ∧ p.py = q.py)) (h : tchB p q = true) :
    tchB q p = true ∧ (csm q p - cln q p = csm p q - cln p q) ∧ (-1 ≤ ux (cdx q p) (cln q p) + ux (cdx p q) (cln p q) ∧ ux (cdx q p) (cln q p) + ux (cdx p q) (cln p q) ≤ 0) ∧ (-1 ≤ uy (cdy q p) (cln q p) + uy (cdy p q) (cln p q) ∧ uy (cdy q p) (cln q p) + uy (cdy p q) (cln p q) ≤ 0) := by
  have e1 := cc_cir c1 c2
  have e2 := cc_cir c2 c1
  have t1 := cc_t hp hq
  have t2 := cc_t hq hp
  have el : (cc q p).t = (cc p q).t := by rw [t1, t2, e1.1, e1.2, e2.1, e2.2, lsq_neg]
  have en : cln q p = cln p q := by unfold cln; rw [el]
  have es : csm q p = csm p q := by unfold csm; omega
  have hn := cln_is hp hq
  have hn0 : cln p q ≠ 0 := fun z => by
    rw [z] at hn
    have k := lsq_zero hn
    rw [e1.1, e1.2] at k
    exact hd (by omega)
  have hpos : 0 < cln p q := by have := hn.1; omega
  have d1 : cdx q p = -(cdx p q) := by rw [e1.1, e2.1]; omega
  have d2 : cdy q p = -(cdy p q) := by rw [e1.2, e2.2]; omega
  refine ⟨(tch_iff hq hp).2 (by rw [en, es]; exact (tch_iff hp hq).1 h), by rw [en, es], ?_, ?_⟩
  · rw [en, d1]
    unfold ux
    rw [if_neg hn0, if_neg hn0, Int.add_comm]
    exact un_neg hpos
  · rw [en, d2]
    unfold uy
    rw [if_neg hn0, if_neg hn0, Int.add_comm]
    exact un_neg hpos
/-- What exchanging the keys of two circles does. -/
theorem sym_xy {x y : Bd} (hx : okC x) (hy : okC y) (hk : x.k ≠ y.k) (c1 : x.ax = 0 ∧ x.ay = 0) (c2 : y.ax = 0 ∧ y.ay = 0) (hd : ¬ (x.px = y.px ∧ x.py = y.py)) (h : tchB (lowB x y) (higB x y) = true) (x' y' : Bd) (ex : x' = { x with k := y.k }) (ey : y' = { y with k := x.k }) :
    tchB (lowB x' y') (higB x' y') = true ∧ (conV (lowB x' y') (higB x' y')).dp = (conV (lowB x y) (higB x y)).dp ∧ (-1 ≤ (conV (lowB x' y') (higB x' y')).nx + (conV (lowB x y) (higB x y)).nx ∧ (conV (lowB x' y') (higB x' y')).nx + (conV (lowB x y) (higB x y)).nx ≤ 0) ∧ (-1 ≤ (conV (lowB x' y') (higB x' y')).ny + (conV (lowB x y) (higB x y)).ny ∧ (conV (lowB x' y') (higB x' y')).ny + (conV (lowB x y) (higB x y)).ny ≤ 0) := by
  by_cases c : y.k < x.k
  · have f1 : lowB x y = y := if_pos c
    have f2 : higB x y = x := if_pos c
    have f3 : lowB x' y' = x' := if_neg (by rw [ex, ey]; show ¬ x.k < y.k; omega)
    have f4 : higB x' y' = y' := if_neg (by rw [ex, ey]; show ¬ x.k < y.k; omega)
    rw [f1, f2] at h ⊢
    rw [f3, f4]
    have s := sym_pq hy hx c2 c1 (fun q => hd ⟨q.1.symm, q.2.symm⟩) h
    have t : tchB x' y' = true := by rw [ex, ey]; exact s.1
    refine ⟨t, ?_⟩
    unfold conV
    rw [if_pos h, if_pos t, ex, ey]
    exact s.2
  · have f1 : lowB x y = x := if_neg c
    have f2 : higB x y = y := if_neg c
    have f3 : lowB x' y' = y' := if_pos (by rw [ex, ey]; show x.k < y.k; omega)
    have f4 : higB x' y' = x' := if_pos (by rw [ex, ey]; show x.k < y.k; omega)
    rw [f1, f2] at h ⊢
    rw [f3, f4]
    have s := sym_pq hx hy c1 c2 hd h
    have t : tchB y' x' = true := by rw [ex, ey]; exact s.1
    refine ⟨t, ?_⟩
    unfold conV
    rw [if_pos h, if_pos t, ex, ey]
    exact s.2
set_option maxRecDepth 100000 in
set_option maxHeartbeats 2000000 in
theorem ksl_bad (AW : Hid QAwake) (x y : Bd) (hr : rgtB x y = false) (w : World) : Calls Try.prog 5 #[.agg #[.int .u32 x.k, .int .i32 x.r, .int .i32 x.ax, .int .i32 x.ay, .int .i32 x.m, .int .i32 x.o, .int .i32 x.px, .int .i32 x.py, .int .i32 x.vx, .int .i32 x.vy], .agg #[.int .u32 y.k, .int .i32 y.r, .int .i32 y.ax, .int .i32 y.ay, .int .i32 y.m, .int .i32 y.o, .int .i32 y.px, .int .i32 y.py, .int .i32 y.vx, .int .i32 y.vy]] w fun e w' => e = .returned (.bool true) ∧ Kep w.heap.size w w' := by
  have RR := Lib.hid (krr x y false hr)
  clear hr
  go_enter Try.func5, Try.ntmps5
  go_wp2_with (first
    | ((with_reducible refine (AW.out _).mono ?_); rintro e w1 ⟨rfl, g1⟩
       first
         | (replace gg := kep_next gg g1)
         | (have x0 := Kep.all g1 (a := ⟨w.heap.size, 0, none⟩) (v := .int .u32 x.k) (by (repeat (first | rw [World.cell?_drew] | rw [World.cell?_alloc_past _ _ _ (by first | (simp; done) | (simp; omega))])); rw [World.cell?_alloc_at _ _ _ _ (by simp)]; rfl)
            have x1 := Kep.all g1 (a := ⟨w.heap.size, 1, none⟩) (v := .int .i32 x.r) (by (repeat (first | rw [World.cell?_drew] | rw [World.cell?_alloc_past _ _ _ (by first | (simp; done) | (simp; omega))])); rw [World.cell?_alloc_at _ _ _ _ (by simp)]; rfl)
            have x2 := Kep.all g1 (a := ⟨w.heap.size, 2, none⟩) (v := .int .i32 x.ax) (by (repeat (first | rw [World.cell?_drew] | rw [World.cell?_alloc_past _ _ _ (by first | (simp; done) | (simp; omega))])); rw [World.cell?_alloc_at _ _ _ _ (by simp)]; rfl)
            have x3 := Kep.all g1 (a := ⟨w.heap.size, 3, none⟩) (v := .int .i32 x.ay) (by (repeat (first | rw [World.cell?_drew] | rw [World.cell?_alloc_past _ _ _ (by first | (simp; done) | (simp; omega))])); rw [World.cell?_alloc_at _ _ _ _ (by simp)]; rfl)
            have x4 := Kep.all g1 (a := ⟨w.heap.size, 4, none⟩) (v := .int .i32 x.m) (by (repeat (first | rw [World.cell?_drew] | rw [World.cell?_alloc_past _ _ _ (by first | (simp; done) | (simp; omega))])); rw [World.cell?_alloc_at _ _ _ _ (by simp)]; rfl)
            have x5 := Kep.all g1 (a := ⟨w.heap.size, 5, none⟩) (v := .int .i32 x.o) (by (repeat (first | rw [World.cell?_drew] | rw [World.cell?_alloc_past _ _ _ (by first | (simp; done) | (simp; omega))])); rw [World.cell?_alloc_at _ _ _ _ (by simp)]; rfl)
            have x6 := Kep.all g1 (a := ⟨w.heap.size, 6, none⟩) (v := .int .i32 x.px) (by (repeat (first | rw [World.cell?_drew] | rw [World.cell?_alloc_past _ _ _ (by first | (simp; done) | (simp; omega))])); rw [World.cell?_alloc_at _ _ _ _ (by simp)]; rfl)
            have x7 := Kep.all g1 (a := ⟨w.heap.size, 7, none⟩) (v := .int .i32 x.py) (by (repeat (first | rw [World.cell?_drew] | rw [World.cell?_alloc_past _ _ _ (by first | (simp; done) | (simp; omega))])); rw [World.cell?_alloc_at _ _ _ _ (by simp)]; rfl)
            have x8 := Kep.all g1 (a := ⟨w.heap.size, 8, none⟩) (v := .int .i32 x.vx) (by (repeat (first | rw [World.cell?_drew] | rw [World.cell?_alloc_past _ _ _ (by first | (simp; done) | (simp; omega))])); rw [World.cell?_alloc_at _ _ _ _ (by simp)]; rfl)
            have x9 := Kep.all g1 (a := ⟨w.heap.size, 9, none⟩) (v := .int .i32 x.vy) (by (repeat (first | rw [World.cell?_drew] | rw [World.cell?_alloc_past _ _ _ (by first | (simp; done) | (simp; omega))])); rw [World.cell?_alloc_at _ _ _ _ (by simp)]; rfl)
            have y0 := Kep.all g1 (a := ⟨w.heap.size + 1, 0, none⟩) (v := .int .u32 y.k) (by (repeat (first | rw [World.cell?_drew] | rw [World.cell?_alloc_past _ _ _ (by first | (simp; done) | (simp; omega))])); rw [World.cell?_alloc_at _ _ _ _ (by simp)]; rfl)
            have y1 := Kep.all g1 (a := ⟨w.heap.size + 1, 1, none⟩) (v := .int .i32 y.r) (by (repeat (first | rw [World.cell?_drew] | rw [World.cell?_alloc_past _ _ _ (by first | (simp; done) | (simp; omega))])); rw [World.cell?_alloc_at _ _ _ _ (by simp)]; rfl)
            have y2 := Kep.all g1 (a := ⟨w.heap.size + 1, 2, none⟩) (v := .int .i32 y.ax) (by (repeat (first | rw [World.cell?_drew] | rw [World.cell?_alloc_past _ _ _ (by first | (simp; done) | (simp; omega))])); rw [World.cell?_alloc_at _ _ _ _ (by simp)]; rfl)
            have y3 := Kep.all g1 (a := ⟨w.heap.size + 1, 3, none⟩) (v := .int .i32 y.ay) (by (repeat (first | rw [World.cell?_drew] | rw [World.cell?_alloc_past _ _ _ (by first | (simp; done) | (simp; omega))])); rw [World.cell?_alloc_at _ _ _ _ (by simp)]; rfl)
            have y4 := Kep.all g1 (a := ⟨w.heap.size + 1, 4, none⟩) (v := .int .i32 y.m) (by (repeat (first | rw [World.cell?_drew] | rw [World.cell?_alloc_past _ _ _ (by first | (simp; done) | (simp; omega))])); rw [World.cell?_alloc_at _ _ _ _ (by simp)]; rfl)
            have y5 := Kep.all g1 (a := ⟨w.heap.size + 1, 5, none⟩) (v := .int .i32 y.o) (by (repeat (first | rw [World.cell?_drew] | rw [World.cell?_alloc_past _ _ _ (by first | (simp; done) | (simp; omega))])); rw [World.cell?_alloc_at _ _ _ _ (by simp)]; rfl)
            have y6 := Kep.all g1 (a := ⟨w.heap.size + 1, 6, none⟩) (v := .int .i32 y.px) (by (repeat (first | rw [World.cell?_drew] | rw [World.cell?_alloc_past _ _ _ (by first | (simp; done) | (simp; omega))])); rw [World.cell?_alloc_at _ _ _ _ (by simp)]; rfl)
            have y7 := Kep.all g1 (a := ⟨w.heap.size + 1, 7, none⟩) (v := .int .i32 y.py) (by (repeat (first | rw [World.cell?_drew] | rw [World.cell?_alloc_past _ _ _ (by first | (simp; done) | (simp; omega))])); rw [World.cell?_alloc_at _ _ _ _ (by simp)]; rfl)
            have y8 := Kep.all g1 (a := ⟨w.heap.size + 1, 8, none⟩) (v := .int .i32 y.vx) (by (repeat (first | rw [World.cell?_drew] | rw [World.cell?_alloc_past _ _ _ (by first | (simp; done) | (simp; omega))])); rw [World.cell?_alloc_at _ _ _ _ (by simp)]; rfl)
            have y9 := Kep.all g1 (a := ⟨w.heap.size + 1, 9, none⟩) (v := .int .i32 y.vy) (by (repeat (first | rw [World.cell?_drew] | rw [World.cell?_alloc_past _ _ _ (by first | (simp; done) | (simp; omega))])); rw [World.cell?_alloc_at _ _ _ _ (by simp)]; rfl)
            have gg := kep_next (kep_more (kep_more (Kep.refl _ _) _) _) g1
            have zx_w1 : w.heap.size < w1.heap.size := World.block_lt_of_cell? _ _ x0
            have zy_w1 : w.heap.size + 1 < w1.heap.size := World.block_lt_of_cell? _ _ y0))
    | ((with_reducible refine (RR.out _).mono ?_); rintro e w2 ⟨rfl, g2⟩
       replace x0 := Kep.all g2 (a := ⟨w.heap.size, 0, none⟩) (v := .int .u32 x.k) x0
       replace x1 := Kep.all g2 (a := ⟨w.heap.size, 1, none⟩) (v := .int .i32 x.r) x1
       replace x2 := Kep.all g2 (a := ⟨w.heap.size, 2, none⟩) (v := .int .i32 x.ax) x2
       replace x3 := Kep.all g2 (a := ⟨w.heap.size, 3, none⟩) (v := .int .i32 x.ay) x3
       replace x4 := Kep.all g2 (a := ⟨w.heap.size, 4, none⟩) (v := .int .i32 x.m) x4
       replace x5 := Kep.all g2 (a := ⟨w.heap.size, 5, none⟩) (v := .int .i32 x.o) x5
       replace x6 := Kep.all g2 (a := ⟨w.heap.size, 6, none⟩) (v := .int .i32 x.px) x6
       replace x7 := Kep.all g2 (a := ⟨w.heap.size, 7, none⟩) (v := .int .i32 x.py) x7
       replace x8 := Kep.all g2 (a := ⟨w.heap.size, 8, none⟩) (v := .int .i32 x.vx) x8
       replace x9 := Kep.all g2 (a := ⟨w.heap.size, 9, none⟩) (v := .int .i32 x.vy) x9
       replace y0 := Kep.all g2 (a := ⟨w.heap.size + 1, 0, none⟩) (v := .int .u32 y.k) y0
       replace y1 := Kep.all g2 (a := ⟨w.heap.size + 1, 1, none⟩) (v := .int .i32 y.r) y1
       replace y2 := Kep.all g2 (a := ⟨w.heap.size + 1, 2, none⟩) (v := .int .i32 y.ax) y2
       replace y3 := Kep.all g2 (a := ⟨w.heap.size + 1, 3, none⟩) (v := .int .i32 y.ay) y3
       replace y4 := Kep.all g2 (a := ⟨w.heap.size + 1, 4, none⟩) (v := .int .i32 y.m) y4
       replace y5 := Kep.all g2 (a := ⟨w.heap.size + 1, 5, none⟩) (v := .int .i32 y.o) y5
       replace y6 := Kep.all g2 (a := ⟨w.heap.size + 1, 6, none⟩) (v := .int .i32 y.px) y6
       replace y7 := Kep.all g2 (a := ⟨w.heap.size + 1, 7, none⟩) (v := .int .i32 y.py) y7
       replace y8 := Kep.all g2 (a := ⟨w.heap.size + 1, 8, none⟩) (v := .int .i32 y.vx) y8
       replace y9 := Kep.all g2 (a := ⟨w.heap.size + 1, 9, none⟩) (v := .int .i32 y.vy) y9
       replace gg := kep_next gg g2
       have zx_w2 : w.heap.size < w2.heap.size := World.block_lt_of_cell? _ _ x0
       have zy_w2 : w.heap.size + 1 < w2.heap.size := World.block_lt_of_cell? _ _ y0))
  go_ret
  exact ⟨rfl, gg⟩
set_option maxRecDepth 100000 in
set_option maxHeartbeats 8000000 in
theorem ksl_main (AW : Hid QAwake) (x y : Bd) (v0 v1 v2 v3 v4 g9 : Int) (z z1 z2 z4 : Bool) (RR : Hid (KRr x y true)) (C1 : Hid (∀ w, Calls Try.prog 10 #[.agg #[.int .u32 x.k, .int .i32 x.r, .int .i32 x.ax, .int .i32 x.ay, .int .i32 x.m, .int .i32 x.o, .int .i32 x.px, .int .i32 x.py, .int .i32 x.vx, .int .i32 x.vy], .agg #[.int .u32 y.k, .int .i32 y.r, .int .i32 y.ax, .int .i32 y.ay, .int .i32 y.m, .int .i32 y.o, .int .i32 y.px, .int .i32 y.py, .int .i32 y.vx, .int .i32 y.vy]] w fun e w' => e = .returned (.tuple #[.agg #[.int .u32 v0, .int .u32 v1, .int .i32 v2, .int .i32 v3, .int .i32 v4], .bool z]) ∧ Kep w.heap.size w w')) (C2 : Hid (∀ w, Calls Try.prog 10 #[.agg #[.int .u32 y.k, .int .i32 y.r, .int .i32 y.ax, .int .i32 y.ay, .int .i32 y.m, .int .i32 y.o, .int .i32 y.px, .int .i32 y.py, .int .i32 y.vx, .int .i32 y.vy], .agg #[.int .u32 x.k, .int .i32 x.r, .int .i32 x.ax, .int .i32 x.ay, .int .i32 x.m, .int .i32 x.o, .int .i32 x.px, .int .i32 x.py, .int .i32 x.vx, .int .i32 x.vy]] w fun e w' => e = .returned (.tuple #[.agg #[.int .u32 v0, .int .u32 v1, .int .i32 v2, .int .i32 v3, .int .i32 v4], .bool z]) ∧ Kep w.heap.size w w')) (C3 : Hid (∀ w, Calls Try.prog 13 #[.agg #[.int .u32 x.k, .int .i32 x.r, .int .i32 x.ax, .int .i32 x.ay, .int .i32 x.m, .int .i32 x.o, .int .i32 x.px, .int .i32 x.py, .int .i32 x.vx, .int .i32 x.vy], .agg #[.int .u32 y.k, .int .i32 y.r, .int .i32 y.ax, .int .i32 y.ay, .int .i32 y.m, .int .i32 y.o, .int .i32 y.px, .int .i32 y.py, .int .i32 y.vx, .int .i32 y.vy]] w fun e w' => e = .returned (.int .i64 g9) ∧ Kep w.heap.size w w')) (C4 : Hid (∀ w, Calls Try.prog 13 #[.agg #[.int .u32 y.k, .int .i32 y.r, .int .i32 y.ax, .int .i32 y.ay, .int .i32 y.m, .int .i32 y.o, .int .i32 y.px, .int .i32 y.py, .int .i32 y.vx, .int .i32 y.vy], .agg #[.int .u32 x.k, .int .i32 x.r, .int .i32 x.ax, .int .i32 x.ay, .int .i32 x.m, .int .i32 x.o, .int .i32 x.px, .int .i32 x.py, .int .i32 x.vx, .int .i32 x.vy]] w fun e w' => e = .returned (.int .i64 g9) ∧ Kep w.heap.size w w'))
    (h1 : decide (x.ax = 0 ∧ x.ay = 0) = z1) (h2 : decide (y.ax = 0 ∧ y.ay = 0) = z2) (h4 : decide (x.px = y.px ∧ x.py = y.py) = z4)
    (CE : z1 = true → z2 = true → z = true → z4 = false → ∃ e0 e1 e2 e3 s2 s3 : Int, IntKind.i32.wrap (e2 + v2) = s2 ∧ IntKind.i32.wrap (e3 + v3) = s3 ∧ (-1 ≤ s2 ∧ s2 ≤ 0) ∧ (-1 ≤ s3 ∧ s3 ≤ 0) ∧ Hid (∀ w, Calls Try.prog 10 #[.agg #[.int .u32 y.k, .int .i32 x.r, .int .i32 x.ax, .int .i32 x.ay, .int .i32 x.m, .int .i32 x.o, .int .i32 x.px, .int .i32 x.py, .int .i32 x.vx, .int .i32 x.vy], .agg #[.int .u32 x.k, .int .i32 y.r, .int .i32 y.ax, .int .i32 y.ay, .int .i32 y.m, .int .i32 y.o, .int .i32 y.px, .int .i32 y.py, .int .i32 y.vx, .int .i32 y.vy]] w fun e w' => e = .returned (.tuple #[.agg #[.int .u32 e0, .int .u32 e1, .int .i32 e2, .int .i32 e3, .int .i32 v4], .bool true]) ∧ Kep w.heap.size w w')) (w : World) : Calls Try.prog 5 #[.agg #[.int .u32 x.k, .int .i32 x.r, .int .i32 x.ax, .int .i32 x.ay, .int .i32 x.m, .int .i32 x.o, .int .i32 x.px, .int .i32 x.py, .int .i32 x.vx, .int .i32 x.vy], .agg #[.int .u32 y.k, .int .i32 y.r, .int .i32 y.ax, .int .i32 y.ay, .int .i32 y.m, .int .i32 y.o, .int .i32 y.px, .int .i32 y.py, .int .i32 y.vx, .int .i32 y.vy]] w fun e w' => e = .returned (.bool true) ∧ Kep w.heap.size w w' := by
  have v1c := fun w => vec_ncmp x.ax x.ay 0 0 z1 h1 w
  have v2c := fun w => vec_ncmp y.ax y.ay 0 0 z2 h2 w
  have v4c := fun w => vec_cmp x.px x.py y.px y.py z4 h4 w
  have vn := fun w => ct_nsame v0 v1 v2 v3 v4 w
  have ez : (z != z) = false := by simp
  have eg : (g9 != g9) = false := by simp
  have ed : (v4 == v4) = true := by simp
  clear h1 h2 h4
  replace CE := Lib.hid CE
  go_enter Try.func5, Try.ntmps5
  go_wp2_with (first
    | ((with_reducible refine (AW.out _).mono ?_); rintro e w1 ⟨rfl, g1⟩
       have x0 := Kep.all g1 (a := ⟨w.heap.size, 0, none⟩) (v := .int .u32 x.k) (by (repeat (first | rw [World.cell?_drew] | rw [World.cell?_alloc_past _ _ _ (by first | (simp; done) | (simp; omega))])); rw [World.cell?_alloc_at _ _ _ _ (by simp)]; rfl)
       have x1 := Kep.all g1 (a := ⟨w.heap.size, 1, none⟩) (v := .int .i32 x.r) (by (repeat (first | rw [World.cell?_drew] | rw [World.cell?_alloc_past _ _ _ (by first | (simp; done) | (simp; omega))])); rw [World.cell?_alloc_at _ _ _ _ (by simp)]; rfl)
       have x2 := Kep.all g1 (a := ⟨w.heap.size, 2, none⟩) (v := .int .i32 x.ax) (by (repeat (first | rw [World.cell?_drew] | rw [World.cell?_alloc_past _ _ _ (by first | (simp; done) | (simp; omega))])); rw [World.cell?_alloc_at _ _ _ _ (by simp)]; rfl)
       have x3 := Kep.all g1 (a := ⟨w.heap.size, 3, none⟩) (v := .int .i32 x.ay) (by (repeat (first | rw [World.cell?_drew] | rw [World.cell?_alloc_past _ _ _ (by first | (simp; done) | (simp; omega))])); rw [World.cell?_alloc_at _ _ _ _ (by simp)]; rfl)
       have x4 := Kep.all g1 (a := ⟨w.heap.size, 4, none⟩) (v := .int .i32 x.m) (by (repeat (first | rw [World.cell?_drew] | rw [World.cell?_alloc_past _ _ _ (by first | (simp; done) | (simp; omega))])); rw [World.cell?_alloc_at _ _ _ _ (by simp)]; rfl)
       have x5 := Kep.all g1 (a := ⟨w.heap.size, 5, none⟩) (v := .int .i32 x.o) (by (repeat (first | rw [World.cell?_drew] | rw [World.cell?_alloc_past _ _ _ (by first | (simp; done) | (simp; omega))])); rw [World.cell?_alloc_at _ _ _ _ (by simp)]; rfl)
       have x6 := Kep.all g1 (a := ⟨w.heap.size, 6, none⟩) (v := .int .i32 x.px) (by (repeat (first | rw [World.cell?_drew] | rw [World.cell?_alloc_past _ _ _ (by first | (simp; done) | (simp; omega))])); rw [World.cell?_alloc_at _ _ _ _ (by simp)]; rfl)
       have x7 := Kep.all g1 (a := ⟨w.heap.size, 7, none⟩) (v := .int .i32 x.py) (by (repeat (first | rw [World.cell?_drew] | rw [World.cell?_alloc_past _ _ _ (by first | (simp; done) | (simp; omega))])); rw [World.cell?_alloc_at _ _ _ _ (by simp)]; rfl)
       have x8 := Kep.all g1 (a := ⟨w.heap.size, 8, none⟩) (v := .int .i32 x.vx) (by (repeat (first | rw [World.cell?_drew] | rw [World.cell?_alloc_past _ _ _ (by first | (simp; done) | (simp; omega))])); rw [World.cell?_alloc_at _ _ _ _ (by simp)]; rfl)
       have x9 := Kep.all g1 (a := ⟨w.heap.size, 9, none⟩) (v := .int .i32 x.vy) (by (repeat (first | rw [World.cell?_drew] | rw [World.cell?_alloc_past _ _ _ (by first | (simp; done) | (simp; omega))])); rw [World.cell?_alloc_at _ _ _ _ (by simp)]; rfl)
       have y0 := Kep.all g1 (a := ⟨w.heap.size + 1, 0, none⟩) (v := .int .u32 y.k) (by (repeat (first | rw [World.cell?_drew] | rw [World.cell?_alloc_past _ _ _ (by first | (simp; done) | (simp; omega))])); rw [World.cell?_alloc_at _ _ _ _ (by simp)]; rfl)
       have y1 := Kep.all g1 (a := ⟨w.heap.size + 1, 1, none⟩) (v := .int .i32 y.r) (by (repeat (first | rw [World.cell?_drew] | rw [World.cell?_alloc_past _ _ _ (by first | (simp; done) | (simp; omega))])); rw [World.cell?_alloc_at _ _ _ _ (by simp)]; rfl)
       have y2 := Kep.all g1 (a := ⟨w.heap.size + 1, 2, none⟩) (v := .int .i32 y.ax) (by (repeat (first | rw [World.cell?_drew] | rw [World.cell?_alloc_past _ _ _ (by first | (simp; done) | (simp; omega))])); rw [World.cell?_alloc_at _ _ _ _ (by simp)]; rfl)
       have y3 := Kep.all g1 (a := ⟨w.heap.size + 1, 3, none⟩) (v := .int .i32 y.ay) (by (repeat (first | rw [World.cell?_drew] | rw [World.cell?_alloc_past _ _ _ (by first | (simp; done) | (simp; omega))])); rw [World.cell?_alloc_at _ _ _ _ (by simp)]; rfl)
       have y4 := Kep.all g1 (a := ⟨w.heap.size + 1, 4, none⟩) (v := .int .i32 y.m) (by (repeat (first | rw [World.cell?_drew] | rw [World.cell?_alloc_past _ _ _ (by first | (simp; done) | (simp; omega))])); rw [World.cell?_alloc_at _ _ _ _ (by simp)]; rfl)
       have y5 := Kep.all g1 (a := ⟨w.heap.size + 1, 5, none⟩) (v := .int .i32 y.o) (by (repeat (first | rw [World.cell?_drew] | rw [World.cell?_alloc_past _ _ _ (by first | (simp; done) | (simp; omega))])); rw [World.cell?_alloc_at _ _ _ _ (by simp)]; rfl)
       have y6 := Kep.all g1 (a := ⟨w.heap.size + 1, 6, none⟩) (v := .int .i32 y.px) (by (repeat (first | rw [World.cell?_drew] | rw [World.cell?_alloc_past _ _ _ (by first | (simp; done) | (simp; omega))])); rw [World.cell?_alloc_at _ _ _ _ (by simp)]; rfl)
       have y7 := Kep.all g1 (a := ⟨w.heap.size + 1, 7, none⟩) (v := .int .i32 y.py) (by (repeat (first | rw [World.cell?_drew] | rw [World.cell?_alloc_past _ _ _ (by first | (simp; done) | (simp; omega))])); rw [World.cell?_alloc_at _ _ _ _ (by simp)]; rfl)
       have y8 := Kep.all g1 (a := ⟨w.heap.size + 1, 8, none⟩) (v := .int .i32 y.vx) (by (repeat (first | rw [World.cell?_drew] | rw [World.cell?_alloc_past _ _ _ (by first | (simp; done) | (simp; omega))])); rw [World.cell?_alloc_at _ _ _ _ (by simp)]; rfl)
       have y9 := Kep.all g1 (a := ⟨w.heap.size + 1, 9, none⟩) (v := .int .i32 y.vy) (by (repeat (first | rw [World.cell?_drew] | rw [World.cell?_alloc_past _ _ _ (by first | (simp; done) | (simp; omega))])); rw [World.cell?_alloc_at _ _ _ _ (by simp)]; rfl)
       have gg := kep_next (kep_more (kep_more (Kep.refl _ _) _) _) g1
       have zx_w1 : w.heap.size < w1.heap.size := World.block_lt_of_cell? _ _ x0
       have zy_w1 : w.heap.size + 1 < w1.heap.size := World.block_lt_of_cell? _ _ y0)
    | ((with_reducible refine (RR.out _).mono ?_); rintro e w2 ⟨rfl, g2⟩
       replace x0 := Kep.all g2 (a := ⟨w.heap.size, 0, none⟩) (v := .int .u32 x.k) x0
       replace x1 := Kep.all g2 (a := ⟨w.heap.size, 1, none⟩) (v := .int .i32 x.r) x1
       replace x2 := Kep.all g2 (a := ⟨w.heap.size, 2, none⟩) (v := .int .i32 x.ax) x2
       replace x3 := Kep.all g2 (a := ⟨w.heap.size, 3, none⟩) (v := .int .i32 x.ay) x3
       replace x4 := Kep.all g2 (a := ⟨w.heap.size, 4, none⟩) (v := .int .i32 x.m) x4
       replace x5 := Kep.all g2 (a := ⟨w.heap.size, 5, none⟩) (v := .int .i32 x.o) x5
       replace x6 := Kep.all g2 (a := ⟨w.heap.size, 6, none⟩) (v := .int .i32 x.px) x6
       replace x7 := Kep.all g2 (a := ⟨w.heap.size, 7, none⟩) (v := .int .i32 x.py) x7
       replace x8 := Kep.all g2 (a := ⟨w.heap.size, 8, none⟩) (v := .int .i32 x.vx) x8
       replace x9 := Kep.all g2 (a := ⟨w.heap.size, 9, none⟩) (v := .int .i32 x.vy) x9
       replace y0 := Kep.all g2 (a := ⟨w.heap.size + 1, 0, none⟩) (v := .int .u32 y.k) y0
       replace y1 := Kep.all g2 (a := ⟨w.heap.size + 1, 1, none⟩) (v := .int .i32 y.r) y1
       replace y2 := Kep.all g2 (a := ⟨w.heap.size + 1, 2, none⟩) (v := .int .i32 y.ax) y2
       replace y3 := Kep.all g2 (a := ⟨w.heap.size + 1, 3, none⟩) (v := .int .i32 y.ay) y3
       replace y4 := Kep.all g2 (a := ⟨w.heap.size + 1, 4, none⟩) (v := .int .i32 y.m) y4
       replace y5 := Kep.all g2 (a := ⟨w.heap.size + 1, 5, none⟩) (v := .int .i32 y.o) y5
       replace y6 := Kep.all g2 (a := ⟨w.heap.size + 1, 6, none⟩) (v := .int .i32 y.px) y6
       replace y7 := Kep.all g2 (a := ⟨w.heap.size + 1, 7, none⟩) (v := .int .i32 y.py) y7
       replace y8 := Kep.all g2 (a := ⟨w.heap.size + 1, 8, none⟩) (v := .int .i32 y.vx) y8
       replace y9 := Kep.all g2 (a := ⟨w.heap.size + 1, 9, none⟩) (v := .int .i32 y.vy) y9
       replace gg := kep_next gg g2
       have zx_w2 : w.heap.size < w2.heap.size := World.block_lt_of_cell? _ _ x0
       have zy_w2 : w.heap.size + 1 < w2.heap.size := World.block_lt_of_cell? _ _ y0)
    | ((with_reducible refine (C1.out _).mono ?_); rintro e w3 ⟨rfl, g3⟩
       replace x0 := Kep.all g3 (a := ⟨w.heap.size, 0, none⟩) (v := .int .u32 x.k) x0
       replace x1 := Kep.all g3 (a := ⟨w.heap.size, 1, none⟩) (v := .int .i32 x.r) x1
       replace x2 := Kep.all g3 (a := ⟨w.heap.size, 2, none⟩) (v := .int .i32 x.ax) x2
       replace x3 := Kep.all g3 (a := ⟨w.heap.size, 3, none⟩) (v := .int .i32 x.ay) x3
       replace x4 := Kep.all g3 (a := ⟨w.heap.size, 4, none⟩) (v := .int .i32 x.m) x4
       replace x5 := Kep.all g3 (a := ⟨w.heap.size, 5, none⟩) (v := .int .i32 x.o) x5
       replace x6 := Kep.all g3 (a := ⟨w.heap.size, 6, none⟩) (v := .int .i32 x.px) x6
       replace x7 := Kep.all g3 (a := ⟨w.heap.size, 7, none⟩) (v := .int .i32 x.py) x7
       replace x8 := Kep.all g3 (a := ⟨w.heap.size, 8, none⟩) (v := .int .i32 x.vx) x8
       replace x9 := Kep.all g3 (a := ⟨w.heap.size, 9, none⟩) (v := .int .i32 x.vy) x9
       replace y0 := Kep.all g3 (a := ⟨w.heap.size + 1, 0, none⟩) (v := .int .u32 y.k) y0
       replace y1 := Kep.all g3 (a := ⟨w.heap.size + 1, 1, none⟩) (v := .int .i32 y.r) y1
       replace y2 := Kep.all g3 (a := ⟨w.heap.size + 1, 2, none⟩) (v := .int .i32 y.ax) y2
       replace y3 := Kep.all g3 (a := ⟨w.heap.size + 1, 3, none⟩) (v := .int .i32 y.ay) y3
       replace y4 := Kep.all g3 (a := ⟨w.heap.size + 1, 4, none⟩) (v := .int .i32 y.m) y4
       replace y5 := Kep.all g3 (a := ⟨w.heap.size + 1, 5, none⟩) (v := .int .i32 y.o) y5
       replace y6 := Kep.all g3 (a := ⟨w.heap.size + 1, 6, none⟩) (v := .int .i32 y.px) y6
       replace y7 := Kep.all g3 (a := ⟨w.heap.size + 1, 7, none⟩) (v := .int .i32 y.py) y7
       replace y8 := Kep.all g3 (a := ⟨w.heap.size + 1, 8, none⟩) (v := .int .i32 y.vx) y8
       replace y9 := Kep.all g3 (a := ⟨w.heap.size + 1, 9, none⟩) (v := .int .i32 y.vy) y9
       replace gg := kep_next gg g3
       have zx_w3 : w.heap.size < w3.heap.size := World.block_lt_of_cell? _ _ x0
       have zy_w3 : w.heap.size + 1 < w3.heap.size := World.block_lt_of_cell? _ _ y0)
    | ((with_reducible refine (C2.out _).mono ?_); rintro e w4 ⟨rfl, g4⟩
       replace x0 := Kep.all g4 (a := ⟨w.heap.size, 0, none⟩) (v := .int .u32 x.k) (Kep.all (kep_more (Kep.refl _ _) _) x0)
       replace x1 := Kep.all g4 (a := ⟨w.heap.size, 1, none⟩) (v := .int .i32 x.r) (Kep.all (kep_more (Kep.refl _ _) _) x1)
       replace x2 := Kep.all g4 (a := ⟨w.heap.size, 2, none⟩) (v := .int .i32 x.ax) (Kep.all (kep_more (Kep.refl _ _) _) x2)
       replace x3 := Kep.all g4 (a := ⟨w.heap.size, 3, none⟩) (v := .int .i32 x.ay) (Kep.all (kep_more (Kep.refl _ _) _) x3)
       replace x4 := Kep.all g4 (a := ⟨w.heap.size, 4, none⟩) (v := .int .i32 x.m) (Kep.all (kep_more (Kep.refl _ _) _) x4)
       replace x5 := Kep.all g4 (a := ⟨w.heap.size, 5, none⟩) (v := .int .i32 x.o) (Kep.all (kep_more (Kep.refl _ _) _) x5)
       replace x6 := Kep.all g4 (a := ⟨w.heap.size, 6, none⟩) (v := .int .i32 x.px) (Kep.all (kep_more (Kep.refl _ _) _) x6)
       replace x7 := Kep.all g4 (a := ⟨w.heap.size, 7, none⟩) (v := .int .i32 x.py) (Kep.all (kep_more (Kep.refl _ _) _) x7)
       replace x8 := Kep.all g4 (a := ⟨w.heap.size, 8, none⟩) (v := .int .i32 x.vx) (Kep.all (kep_more (Kep.refl _ _) _) x8)
       replace x9 := Kep.all g4 (a := ⟨w.heap.size, 9, none⟩) (v := .int .i32 x.vy) (Kep.all (kep_more (Kep.refl _ _) _) x9)
       replace y0 := Kep.all g4 (a := ⟨w.heap.size + 1, 0, none⟩) (v := .int .u32 y.k) (Kep.all (kep_more (Kep.refl _ _) _) y0)
       replace y1 := Kep.all g4 (a := ⟨w.heap.size + 1, 1, none⟩) (v := .int .i32 y.r) (Kep.all (kep_more (Kep.refl _ _) _) y1)
       replace y2 := Kep.all g4 (a := ⟨w.heap.size + 1, 2, none⟩) (v := .int .i32 y.ax) (Kep.all (kep_more (Kep.refl _ _) _) y2)
       replace y3 := Kep.all g4 (a := ⟨w.heap.size + 1, 3, none⟩) (v := .int .i32 y.ay) (Kep.all (kep_more (Kep.refl _ _) _) y3)
       replace y4 := Kep.all g4 (a := ⟨w.heap.size + 1, 4, none⟩) (v := .int .i32 y.m) (Kep.all (kep_more (Kep.refl _ _) _) y4)
       replace y5 := Kep.all g4 (a := ⟨w.heap.size + 1, 5, none⟩) (v := .int .i32 y.o) (Kep.all (kep_more (Kep.refl _ _) _) y5)
       replace y6 := Kep.all g4 (a := ⟨w.heap.size + 1, 6, none⟩) (v := .int .i32 y.px) (Kep.all (kep_more (Kep.refl _ _) _) y6)
       replace y7 := Kep.all g4 (a := ⟨w.heap.size + 1, 7, none⟩) (v := .int .i32 y.py) (Kep.all (kep_more (Kep.refl _ _) _) y7)
       replace y8 := Kep.all g4 (a := ⟨w.heap.size + 1, 8, none⟩) (v := .int .i32 y.vx) (Kep.all (kep_more (Kep.refl _ _) _) y8)
       replace y9 := Kep.all g4 (a := ⟨w.heap.size + 1, 9, none⟩) (v := .int .i32 y.vy) (Kep.all (kep_more (Kep.refl _ _) _) y9)
       have c0 := Kep.all g4 (a := ⟨w3.heap.size, 0, none⟩) (v := .int .u32 v0) (by (repeat (first | rw [World.cell?_drew] | rw [World.cell?_alloc_past _ _ _ (by first | (simp; done) | (simp; omega))])); rw [World.cell?_alloc_at _ _ _ _ (by simp)]; rfl)
       have c1 := Kep.all g4 (a := ⟨w3.heap.size, 1, none⟩) (v := .int .u32 v1) (by (repeat (first | rw [World.cell?_drew] | rw [World.cell?_alloc_past _ _ _ (by first | (simp; done) | (simp; omega))])); rw [World.cell?_alloc_at _ _ _ _ (by simp)]; rfl)
       have c2 := Kep.all g4 (a := ⟨w3.heap.size, 2, none⟩) (v := .int .i32 v2) (by (repeat (first | rw [World.cell?_drew] | rw [World.cell?_alloc_past _ _ _ (by first | (simp; done) | (simp; omega))])); rw [World.cell?_alloc_at _ _ _ _ (by simp)]; rfl)
       have c3 := Kep.all g4 (a := ⟨w3.heap.size, 3, none⟩) (v := .int .i32 v3) (by (repeat (first | rw [World.cell?_drew] | rw [World.cell?_alloc_past _ _ _ (by first | (simp; done) | (simp; omega))])); rw [World.cell?_alloc_at _ _ _ _ (by simp)]; rfl)
       have c4 := Kep.all g4 (a := ⟨w3.heap.size, 4, none⟩) (v := .int .i32 v4) (by (repeat (first | rw [World.cell?_drew] | rw [World.cell?_alloc_past _ _ _ (by first | (simp; done) | (simp; omega))])); rw [World.cell?_alloc_at _ _ _ _ (by simp)]; rfl)
       replace gg := kep_next (kep_more gg _) g4
       have zx_w4 : w.heap.size < w4.heap.size := World.block_lt_of_cell? _ _ x0
       have zy_w4 : w.heap.size + 1 < w4.heap.size := World.block_lt_of_cell? _ _ y0
       have zc_w4 : w3.heap.size < w4.heap.size := World.block_lt_of_cell? _ _ c0))
  generalize hW : World.alloc w4 _ = W5
  replace x0 : W5.cell? ⟨w.heap.size, 0, none⟩ = some (.int .u32 x.k) := by rw [← hW]; exact (Kep.all (kep_more (Kep.refl _ _) _) x0)
  replace x1 : W5.cell? ⟨w.heap.size, 1, none⟩ = some (.int .i32 x.r) := by rw [← hW]; exact (Kep.all (kep_more (Kep.refl _ _) _) x1)
  replace x2 : W5.cell? ⟨w.heap.size, 2, none⟩ = some (.int .i32 x.ax) := by rw [← hW]; exact (Kep.all (kep_more (Kep.refl _ _) _) x2)
  replace x3 : W5.cell? ⟨w.heap.size, 3, none⟩ = some (.int .i32 x.ay) := by rw [← hW]; exact (Kep.all (kep_more (Kep.refl _ _) _) x3)
  replace x4 : W5.cell? ⟨w.heap.size, 4, none⟩ = some (.int .i32 x.m) := by rw [← hW]; exact (Kep.all (kep_more (Kep.refl _ _) _) x4)
  replace x5 : W5.cell? ⟨w.heap.size, 5, none⟩ = some (.int .i32 x.o) := by rw [← hW]; exact (Kep.all (kep_more (Kep.refl _ _) _) x5)
  replace x6 : W5.cell? ⟨w.heap.size, 6, none⟩ = some (.int .i32 x.px) := by rw [← hW]; exact (Kep.all (kep_more (Kep.refl _ _) _) x6)
  replace x7 : W5.cell? ⟨w.heap.size, 7, none⟩ = some (.int .i32 x.py) := by rw [← hW]; exact (Kep.all (kep_more (Kep.refl _ _) _) x7)
  replace x8 : W5.cell? ⟨w.heap.size, 8, none⟩ = some (.int .i32 x.vx) := by rw [← hW]; exact (Kep.all (kep_more (Kep.refl _ _) _) x8)
  replace x9 : W5.cell? ⟨w.heap.size, 9, none⟩ = some (.int .i32 x.vy) := by rw [← hW]; exact (Kep.all (kep_more (Kep.refl _ _) _) x9)
  replace y0 : W5.cell? ⟨w.heap.size + 1, 0, none⟩ = some (.int .u32 y.k) := by rw [← hW]; exact (Kep.all (kep_more (Kep.refl _ _) _) y0)
  replace y1 : W5.cell? ⟨w.heap.size + 1, 1, none⟩ = some (.int .i32 y.r) := by rw [← hW]; exact (Kep.all (kep_more (Kep.refl _ _) _) y1)
  replace y2 : W5.cell? ⟨w.heap.size + 1, 2, none⟩ = some (.int .i32 y.ax) := by rw [← hW]; exact (Kep.all (kep_more (Kep.refl _ _) _) y2)
  replace y3 : W5.cell? ⟨w.heap.size + 1, 3, none⟩ = some (.int .i32 y.ay) := by rw [← hW]; exact (Kep.all (kep_more (Kep.refl _ _) _) y3)
  replace y4 : W5.cell? ⟨w.heap.size + 1, 4, none⟩ = some (.int .i32 y.m) := by rw [← hW]; exact (Kep.all (kep_more (Kep.refl _ _) _) y4)
  replace y5 : W5.cell? ⟨w.heap.size + 1, 5, none⟩ = some (.int .i32 y.o) := by rw [← hW]; exact (Kep.all (kep_more (Kep.refl _ _) _) y5)
  replace y6 : W5.cell? ⟨w.heap.size + 1, 6, none⟩ = some (.int .i32 y.px) := by rw [← hW]; exact (Kep.all (kep_more (Kep.refl _ _) _) y6)
  replace y7 : W5.cell? ⟨w.heap.size + 1, 7, none⟩ = some (.int .i32 y.py) := by rw [← hW]; exact (Kep.all (kep_more (Kep.refl _ _) _) y7)
  replace y8 : W5.cell? ⟨w.heap.size + 1, 8, none⟩ = some (.int .i32 y.vx) := by rw [← hW]; exact (Kep.all (kep_more (Kep.refl _ _) _) y8)
  replace y9 : W5.cell? ⟨w.heap.size + 1, 9, none⟩ = some (.int .i32 y.vy) := by rw [← hW]; exact (Kep.all (kep_more (Kep.refl _ _) _) y9)
  replace c0 : W5.cell? ⟨w3.heap.size, 0, none⟩ = some (.int .u32 v0) := by rw [← hW]; exact (Kep.all (kep_more (Kep.refl _ _) _) c0)
  replace c1 : W5.cell? ⟨w3.heap.size, 1, none⟩ = some (.int .u32 v1) := by rw [← hW]; exact (Kep.all (kep_more (Kep.refl _ _) _) c1)
  replace c2 : W5.cell? ⟨w3.heap.size, 2, none⟩ = some (.int .i32 v2) := by rw [← hW]; exact (Kep.all (kep_more (Kep.refl _ _) _) c2)
  replace c3 : W5.cell? ⟨w3.heap.size, 3, none⟩ = some (.int .i32 v3) := by rw [← hW]; exact (Kep.all (kep_more (Kep.refl _ _) _) c3)
  replace c4 : W5.cell? ⟨w3.heap.size, 4, none⟩ = some (.int .i32 v4) := by rw [← hW]; exact (Kep.all (kep_more (Kep.refl _ _) _) c4)
  have d0 : W5.cell? ⟨w4.heap.size, 0, none⟩ = some (.int .u32 v0) := by
    rw [← hW]
    (repeat (first | rw [World.cell?_drew] | rw [World.cell?_alloc_past _ _ _ (by first | (simp; done) | (simp; omega))])); rw [World.cell?_alloc_at _ _ _ _ (by simp)]; rfl
  have d1 : W5.cell? ⟨w4.heap.size, 1, none⟩ = some (.int .u32 v1) := by
    rw [← hW]
    (repeat (first | rw [World.cell?_drew] | rw [World.cell?_alloc_past _ _ _ (by first | (simp; done) | (simp; omega))])); rw [World.cell?_alloc_at _ _ _ _ (by simp)]; rfl
  have d2 : W5.cell? ⟨w4.heap.size, 2, none⟩ = some (.int .i32 v2) := by
    rw [← hW]
    (repeat (first | rw [World.cell?_drew] | rw [World.cell?_alloc_past _ _ _ (by first | (simp; done) | (simp; omega))])); rw [World.cell?_alloc_at _ _ _ _ (by simp)]; rfl
  have d3 : W5.cell? ⟨w4.heap.size, 3, none⟩ = some (.int .i32 v3) := by
    rw [← hW]
    (repeat (first | rw [World.cell?_drew] | rw [World.cell?_alloc_past _ _ _ (by first | (simp; done) | (simp; omega))])); rw [World.cell?_alloc_at _ _ _ _ (by simp)]; rfl
  have d4 : W5.cell? ⟨w4.heap.size, 4, none⟩ = some (.int .i32 v4) := by
    rw [← hW]
    (repeat (first | rw [World.cell?_drew] | rw [World.cell?_alloc_past _ _ _ (by first | (simp; done) | (simp; omega))])); rw [World.cell?_alloc_at _ _ _ _ (by simp)]; rfl
  replace gg : Kep w.heap.size w W5 := by rw [← hW]; exact (kep_more gg _)
  clear hW
  have zx_W5 : w.heap.size < W5.heap.size := World.block_lt_of_cell? _ _ x0
  have zy_W5 : w.heap.size + 1 < W5.heap.size := World.block_lt_of_cell? _ _ y0
  have zc_W5 : w3.heap.size < W5.heap.size := World.block_lt_of_cell? _ _ c0
  have zd_W5 : w4.heap.size < W5.heap.size := World.block_lt_of_cell? _ _ d0
  refine wp_region_noPanic ?_
  refine wp_region_held_drew (S := (fun w' => w'.cell? ⟨w.heap.size, 0, none⟩ = some (.int .u32 x.k) ∧ w'.cell? ⟨w.heap.size, 1, none⟩ = some (.int .i32 x.r) ∧ w'.cell? ⟨w.heap.size, 2, none⟩ = some (.int .i32 x.ax) ∧ w'.cell? ⟨w.heap.size, 3, none⟩ = some (.int .i32 x.ay) ∧ w'.cell? ⟨w.heap.size, 4, none⟩ = some (.int .i32 x.m) ∧ w'.cell? ⟨w.heap.size, 5, none⟩ = some (.int .i32 x.o) ∧ w'.cell? ⟨w.heap.size, 6, none⟩ = some (.int .i32 x.px) ∧ w'.cell? ⟨w.heap.size, 7, none⟩ = some (.int .i32 x.py) ∧ w'.cell? ⟨w.heap.size, 8, none⟩ = some (.int .i32 x.vx) ∧ w'.cell? ⟨w.heap.size, 9, none⟩ = some (.int .i32 x.vy) ∧ w'.cell? ⟨w.heap.size + 1, 0, none⟩ = some (.int .u32 y.k) ∧ w'.cell? ⟨w.heap.size + 1, 1, none⟩ = some (.int .i32 y.r) ∧ w'.cell? ⟨w.heap.size + 1, 2, none⟩ = some (.int .i32 y.ax) ∧ w'.cell? ⟨w.heap.size + 1, 3, none⟩ = some (.int .i32 y.ay) ∧ w'.cell? ⟨w.heap.size + 1, 4, none⟩ = some (.int .i32 y.m) ∧ w'.cell? ⟨w.heap.size + 1, 5, none⟩ = some (.int .i32 y.o) ∧ w'.cell? ⟨w.heap.size + 1, 6, none⟩ = some (.int .i32 y.px) ∧ w'.cell? ⟨w.heap.size + 1, 7, none⟩ = some (.int .i32 y.py) ∧ w'.cell? ⟨w.heap.size + 1, 8, none⟩ = some (.int .i32 y.vx) ∧ w'.cell? ⟨w.heap.size + 1, 9, none⟩ = some (.int .i32 y.vy) ∧ w'.cell? ⟨w3.heap.size, 0, none⟩ = some (.int .u32 v0) ∧ w'.cell? ⟨w3.heap.size, 1, none⟩ = some (.int .u32 v1) ∧ w'.cell? ⟨w3.heap.size, 2, none⟩ = some (.int .i32 v2) ∧ w'.cell? ⟨w3.heap.size, 3, none⟩ = some (.int .i32 v3) ∧ w'.cell? ⟨w3.heap.size, 4, none⟩ = some (.int .i32 v4) ∧ w'.cell? ⟨w4.heap.size, 0, none⟩ = some (.int .u32 v0) ∧ w'.cell? ⟨w4.heap.size, 1, none⟩ = some (.int .u32 v1) ∧ w'.cell? ⟨w4.heap.size, 2, none⟩ = some (.int .i32 v2) ∧ w'.cell? ⟨w4.heap.size, 3, none⟩ = some (.int .i32 v3) ∧ w'.cell? ⟨w4.heap.size, 4, none⟩ = some (.int .i32 v4) ∧ Kep w.heap.size w w')) (by kernel_rfl) (⟨by rw [World.cell?_drew]; exact x0, by rw [World.cell?_drew]; exact x1, by rw [World.cell?_drew]; exact x2, by rw [World.cell?_drew]; exact x3, by rw [World.cell?_drew]; exact x4, by rw [World.cell?_drew]; exact x5, by rw [World.cell?_drew]; exact x6, by rw [World.cell?_drew]; exact x7, by rw [World.cell?_drew]; exact x8, by rw [World.cell?_drew]; exact x9, by rw [World.cell?_drew]; exact y0, by rw [World.cell?_drew]; exact y1, by rw [World.cell?_drew]; exact y2, by rw [World.cell?_drew]; exact y3, by rw [World.cell?_drew]; exact y4, by rw [World.cell?_drew]; exact y5, by rw [World.cell?_drew]; exact y6, by rw [World.cell?_drew]; exact y7, by rw [World.cell?_drew]; exact y8, by rw [World.cell?_drew]; exact y9, by rw [World.cell?_drew]; exact c0, by rw [World.cell?_drew]; exact c1, by rw [World.cell?_drew]; exact c2, by rw [World.cell?_drew]; exact c3, by rw [World.cell?_drew]; exact c4, by rw [World.cell?_drew]; exact d0, by rw [World.cell?_drew]; exact d1, by rw [World.cell?_drew]; exact d2, by rw [World.cell?_drew]; exact d3, by rw [World.cell?_drew]; exact d4, kep_drew gg⟩) (fun hH => ?_)
  refine wpAnyH_take (i := 0) (oi := { dst := some 34, op := Op.load 32 (Operand.tmp 5), type := _, pos := _, after := _, guard := none }) (v := ?_) rfl (by kernel_rfl) (by kernel_rfl) (by kernel_rfl) (fun _ _ _ h => h) (Or.inl ⟨by rfl, ?_⟩) hH ?_
  rotate_left
  · (intro w hSw; (try dsimp only at hSw); go_simp; (try with_reducible rfl))
  try simp only [Act.put, List.setIfInBounds_toArray, List.set_cons_zero, List.set_cons_succ]
  refine wpAnyH_take (i := 1) (oi := { dst := some 35, op := Op.load 32 (Operand.tmp 7), type := _, pos := _, after := _, guard := none }) (v := ?_) rfl (by kernel_rfl) (by kernel_rfl) (by kernel_rfl) (fun _ _ _ h => h) (Or.inl ⟨by rfl, ?_⟩) hH ?_
  rotate_left
  · (intro w hSw; (try dsimp only at hSw); go_simp; (try with_reducible rfl))
  try simp only [Act.put, List.setIfInBounds_toArray, List.set_cons_zero, List.set_cons_succ]
  refine wpAnyH_take (i := 2) (oi := { dst := some 36, op := Op.binOp BinOp.neq 32 (Operand.tmp 34) (Operand.tmp 35) 32, type := _, pos := _, after := _, guard := none }) (v := ?_) rfl (by kernel_rfl) (by kernel_rfl) (by kernel_rfl) (fun _ _ _ h => h) (Or.inl ⟨by rfl, ?_⟩) hH ?_
  rotate_left
  · (intro w hSw; (try dsimp only at hSw); go_simp; (try with_reducible rfl))
  try simp only [Act.put, List.setIfInBounds_toArray, List.set_cons_zero, List.set_cons_succ]
  refine wpAnyH_take (i := 3) (oi := { dst := some 37, op := Op.move (Operand.tmp 36), type := _, pos := _, after := _, guard := none }) (v := ?_) rfl (by kernel_rfl) (by kernel_rfl) (by kernel_rfl) (fun _ _ _ h => h) (Or.inl ⟨by rfl, ?_⟩) hH ?_
  rotate_left
  · (intro w hSw; (try dsimp only at hSw); go_simp; (try with_reducible rfl))
  try simp only [Act.put, List.setIfInBounds_toArray, List.set_cons_zero, List.set_cons_succ]
  refine wpAnyH_take (i := 4) (oi := { dst := some 38, op := Op.move (Operand.tmp 6), type := _, pos := _, after := _, guard := some (3, false) }) (v := ?_) rfl (by kernel_rfl) (by kernel_rfl) (by kernel_rfl) (fun _ _ _ h => h) (Or.inl ⟨by rfl, ?_⟩) hH ?_
  rotate_left
  · (intro w hSw; (try dsimp only at hSw); go_simp; (try with_reducible rfl))
  try simp only [Act.put, List.setIfInBounds_toArray, List.set_cons_zero, List.set_cons_succ]
  refine wpAnyH_take (i := 5) (oi := { dst := some 39, op := Op.move (Operand.tmp 8), type := _, pos := _, after := _, guard := some (3, false) }) (v := ?_) rfl (by kernel_rfl) (by kernel_rfl) (by kernel_rfl) (fun _ _ _ h => h) (Or.inl ⟨by rfl, ?_⟩) hH ?_
  rotate_left
  · (intro w hSw; (try dsimp only at hSw); go_simp; (try with_reducible rfl))
  try simp only [Act.put, List.setIfInBounds_toArray, List.set_cons_zero, List.set_cons_succ]
  refine wpAnyH_take (i := 6) (oi := { dst := some 40, op := Op.binOp BinOp.neq 4 (Operand.tmp 38) (Operand.tmp 39) 4, type := _, pos := _, after := _, guard := some (3, false) }) (v := ?_) rfl (by kernel_rfl) (by kernel_rfl) (by kernel_rfl) (fun _ _ _ h => h) (Or.inl ⟨by rfl, ?_⟩) hH ?_
  rotate_left
  · (intro w hSw; (try dsimp only at hSw); go_simp; (try with_reducible rfl))
  try simp only [Act.put, List.setIfInBounds_toArray, List.set_cons_zero, List.set_cons_succ]
  refine wpAnyH_take (i := 7) (oi := { dst := some 41, op := Op.pick (Operand.tmp 37) (Operand.const (Value.bool true)) (Operand.tmp 40), type := _, pos := _, after := _, guard := none }) (v := ?_) rfl (by kernel_rfl) (by kernel_rfl) (by kernel_rfl) (fun _ _ _ h => h) (Or.inl ⟨by rfl, ?_⟩) hH ?_
  rotate_left
  · (intro w hSw; (try dsimp only at hSw); go_simp; (try with_reducible rfl))
  try simp only [Act.put, List.setIfInBounds_toArray, List.set_cons_zero, List.set_cons_succ]
  refine wpAnyH_take (i := 8) (oi := { dst := some 42, op := Op.move (Operand.tmp 41), type := _, pos := _, after := _, guard := none }) (v := ?_) rfl (by kernel_rfl) (by kernel_rfl) (by kernel_rfl) (fun _ _ _ h => h) (Or.inl ⟨by rfl, ?_⟩) hH ?_
  rotate_left
  · (intro w hSw; (try dsimp only at hSw); go_simp; (try with_reducible rfl))
  try simp only [Act.put, List.setIfInBounds_toArray, List.set_cons_zero, List.set_cons_succ]
  refine wpAnyH_take (i := 9) (oi := { dst := some 43, op := Op.load 26 (Operand.tmp 2), type := _, pos := _, after := _, guard := some (8, false) }) (v := ?_) rfl (by kernel_rfl) (by kernel_rfl) (by kernel_rfl) (fun _ _ _ h => h) (Or.inl ⟨by rfl, ?_⟩) hH ?_
  rotate_left
  · (intro w hSw; (try dsimp only at hSw); go_simp; (try with_reducible rfl))
  try simp only [Act.put, List.setIfInBounds_toArray, List.set_cons_zero, List.set_cons_succ]
  refine wpAnyH_take (i := 10) (oi := { dst := some 44, op := Op.load 26 (Operand.tmp 3), type := _, pos := _, after := _, guard := some (8, false) }) (v := ?_) rfl (by kernel_rfl) (by kernel_rfl) (by kernel_rfl) (fun _ _ _ h => h) (Or.inl ⟨by rfl, ?_⟩) hH ?_
  rotate_left
  · (intro w hSw; (try dsimp only at hSw); go_simp; (try with_reducible rfl))
  try simp only [Act.put, List.setIfInBounds_toArray, List.set_cons_zero, List.set_cons_succ]
  refine wpAnyH_take (i := 12) (oi := { dst := some 46, op := Op.load 26 (Operand.tmp 3), type := _, pos := _, after := _, guard := some (8, false) }) (v := ?_) rfl (by kernel_rfl) (by kernel_rfl) (by kernel_rfl) (fun _ _ _ h => h) (Or.inl ⟨by rfl, ?_⟩) hH ?_
  rotate_left
  · (intro w hSw; (try dsimp only at hSw); go_simp; (try with_reducible rfl))
  try simp only [Act.put, List.setIfInBounds_toArray, List.set_cons_zero, List.set_cons_succ]
  refine wpAnyH_take (i := 13) (oi := { dst := some 47, op := Op.load 26 (Operand.tmp 2), type := _, pos := _, after := _, guard := some (8, false) }) (v := ?_) rfl (by kernel_rfl) (by kernel_rfl) (by kernel_rfl) (fun _ _ _ h => h) (Or.inl ⟨by rfl, ?_⟩) hH ?_
  rotate_left
  · (intro w hSw; (try dsimp only at hSw); go_simp; (try with_reducible rfl))
  try simp only [Act.put, List.setIfInBounds_toArray, List.set_cons_zero, List.set_cons_succ]
  refine wpAnyH_ready (rs := [11]) (by kernel_rfl) (by simp) ?_
  refine AllReadyH.cons (o := { dst := some 45, op := Op.call { callee := Callee.value (Operand.func 13), args := #[Operand.tmp 43, Operand.tmp 44], argTypes := #[26, 26] }, type := _, pos := _, after := _, guard := some (8, false) }) rfl (fun K hK => ?_) AllReadyH.nil
  go_simp
  (with_reducible refine (C3.out _).mono ?_); rintro e v5_11 ⟨rfl, g⟩
  refine hK.out _ _ (by (try dsimp only); (go_split_ands; exact ⟨Kep.all g (by assumption), Kep.all g (by assumption), Kep.all g (by assumption), Kep.all g (by assumption), Kep.all g (by assumption), Kep.all g (by assumption), Kep.all g (by assumption), Kep.all g (by assumption), Kep.all g (by assumption), Kep.all g (by assumption), Kep.all g (by assumption), Kep.all g (by assumption), Kep.all g (by assumption), Kep.all g (by assumption), Kep.all g (by assumption), Kep.all g (by assumption), Kep.all g (by assumption), Kep.all g (by assumption), Kep.all g (by assumption), Kep.all g (by assumption), Kep.all g (by assumption), Kep.all g (by assumption), Kep.all g (by assumption), Kep.all g (by assumption), Kep.all g (by assumption), Kep.all g (by assumption), Kep.all g (by assumption), Kep.all g (by assumption), Kep.all g (by assumption), Kep.all g (by assumption), kep_next (by assumption) g⟩)) (fun hH2 => ?_)
  clear hK K hH; have hH := hH2; clear hH2
  try simp only [Act.put, List.setIfInBounds_toArray, List.set_cons_zero, List.set_cons_succ]
  refine wpAnyH_ready (rs := [14]) (by kernel_rfl) (by simp) ?_
  refine AllReadyH.cons (o := { dst := some 48, op := Op.call { callee := Callee.value (Operand.func 13), args := #[Operand.tmp 46, Operand.tmp 47], argTypes := #[26, 26] }, type := _, pos := _, after := _, guard := some (8, false) }) rfl (fun K hK => ?_) AllReadyH.nil
  go_simp
  (with_reducible refine (C4.out _).mono ?_); rintro e v5_14 ⟨rfl, g⟩
  refine hK.out _ _ (by (try dsimp only); (go_split_ands; exact ⟨Kep.all g (by assumption), Kep.all g (by assumption), Kep.all g (by assumption), Kep.all g (by assumption), Kep.all g (by assumption), Kep.all g (by assumption), Kep.all g (by assumption), Kep.all g (by assumption), Kep.all g (by assumption), Kep.all g (by assumption), Kep.all g (by assumption), Kep.all g (by assumption), Kep.all g (by assumption), Kep.all g (by assumption), Kep.all g (by assumption), Kep.all g (by assumption), Kep.all g (by assumption), Kep.all g (by assumption), Kep.all g (by assumption), Kep.all g (by assumption), Kep.all g (by assumption), Kep.all g (by assumption), Kep.all g (by assumption), Kep.all g (by assumption), Kep.all g (by assumption), Kep.all g (by assumption), Kep.all g (by assumption), Kep.all g (by assumption), Kep.all g (by assumption), Kep.all g (by assumption), kep_next (by assumption) g⟩)) (fun hH2 => ?_)
  clear hK K hH; have hH := hH2; clear hH2
  try simp only [Act.put, List.setIfInBounds_toArray, List.set_cons_zero, List.set_cons_succ]
  refine wpAnyH_take (i := 15) (oi := { dst := some 49, op := Op.binOp BinOp.neq 2 (Operand.tmp 45) (Operand.tmp 48) 2, type := _, pos := _, after := _, guard := some (8, false) }) (v := ?_) rfl (by kernel_rfl) (by kernel_rfl) (by kernel_rfl) (fun _ _ _ h => h) (Or.inl ⟨by rfl, ?_⟩) hH ?_
  rotate_left
  · (intro w hSw; (try dsimp only at hSw); go_simp; (try with_reducible rfl))
  try simp only [Act.put, List.setIfInBounds_toArray, List.set_cons_zero, List.set_cons_succ]
  refine wpAnyH_take (i := 16) (oi := { dst := some 50, op := Op.pick (Operand.tmp 42) (Operand.const (Value.bool true)) (Operand.tmp 49), type := _, pos := _, after := _, guard := none }) (v := ?_) rfl (by kernel_rfl) (by kernel_rfl) (by kernel_rfl) (fun _ _ _ h => h) (Or.inl ⟨by rfl, ?_⟩) hH ?_
  rotate_left
  · (intro w hSw; (try dsimp only at hSw); go_simp; (try with_reducible rfl))
  try simp only [Act.put, List.setIfInBounds_toArray, List.set_cons_zero, List.set_cons_succ]
  refine wpAnyH_done (by kernel_rfl) ?_ _
  refine NoPanic.normal ?_
  clear x0 x1 x2 x3 x4 x5 x6 x7 x8 x9 y0 y1 y2 y3 y4 y5 y6 y7 y8 y9 c0 c1 c2 c3 c4 d0 d1 d2 d3 d4 gg
  obtain ⟨x0, x1, x2, x3, x4, x5, x6, x7, x8, x9, y0, y1, y2, y3, y4, y5, y6, y7, y8, y9, c0, c1, c2, c3, c4, d0, d1, d2, d3, d4, gg⟩ := hH
  cases z1
  · (go_wp2_with fail; go_ret; exact ⟨rfl, gg⟩)
  cases z2
  · (go_wp2_with fail; go_ret; exact ⟨rfl, gg⟩)
  cases z
  · (go_wp2_with fail; go_ret; exact ⟨rfl, gg⟩)
  cases z4
  rotate_left
  · (go_wp2_with fail; go_ret; exact ⟨rfl, gg⟩)
  obtain ⟨e0, e1, e2, e3, s2, s3, a1, a2, b1, b2, CC⟩ := CE.out rfl rfl rfl rfl
  have q1 : decide (-1 ≤ s2) = true := decide_eq_true b1.1
  have q2 : decide (s2 ≤ 0) = true := decide_eq_true b1.2
  have q3 : decide (-1 ≤ s3) = true := decide_eq_true b2.1
  have q4 : decide (s3 ≤ 0) = true := decide_eq_true b2.2
  clear b1 b2 CE
  go_wp2_with fail
  have zx_v5_14 : w.heap.size < v5_14.heap.size := World.block_lt_of_cell? _ _ x0
  have zy_v5_14 : w.heap.size + 1 < v5_14.heap.size := World.block_lt_of_cell? _ _ y0
  have zc_v5_14 : w3.heap.size < v5_14.heap.size := World.block_lt_of_cell? _ _ c0
  go_cut [9, 10] (fun s t wx => ∃ u1 u2 : Nat, s = .pointer (some ⟨u1, 0, none⟩) ∧ t = .pointer (some ⟨u2, 0, none⟩) ∧ (u1 ≠ u2 ∧ v5_14.heap.size ≤ u1 ∧ v5_14.heap.size ≤ u2) ∧ wx.cell? ⟨u1, 0, none⟩ = some (.int .u32 x.k) ∧ wx.cell? ⟨u1, 1, none⟩ = some (.int .i32 x.r) ∧ wx.cell? ⟨u1, 2, none⟩ = some (.int .i32 x.ax) ∧ wx.cell? ⟨u1, 3, none⟩ = some (.int .i32 x.ay) ∧ wx.cell? ⟨u1, 4, none⟩ = some (.int .i32 x.m) ∧ wx.cell? ⟨u1, 5, none⟩ = some (.int .i32 x.o) ∧ wx.cell? ⟨u1, 6, none⟩ = some (.int .i32 x.px) ∧ wx.cell? ⟨u1, 7, none⟩ = some (.int .i32 x.py) ∧ wx.cell? ⟨u1, 8, none⟩ = some (.int .i32 x.vx) ∧ wx.cell? ⟨u1, 9, none⟩ = some (.int .i32 x.vy) ∧ wx.cell? ⟨u2, 0, none⟩ = some (.int .u32 y.k) ∧ wx.cell? ⟨u2, 1, none⟩ = some (.int .i32 y.r) ∧ wx.cell? ⟨u2, 2, none⟩ = some (.int .i32 y.ax) ∧ wx.cell? ⟨u2, 3, none⟩ = some (.int .i32 y.ay) ∧ wx.cell? ⟨u2, 4, none⟩ = some (.int .i32 y.m) ∧ wx.cell? ⟨u2, 5, none⟩ = some (.int .i32 y.o) ∧ wx.cell? ⟨u2, 6, none⟩ = some (.int .i32 y.px) ∧ wx.cell? ⟨u2, 7, none⟩ = some (.int .i32 y.py) ∧ wx.cell? ⟨u2, 8, none⟩ = some (.int .i32 y.vx) ∧ wx.cell? ⟨u2, 9, none⟩ = some (.int .i32 y.vy) ∧ wx.cell? ⟨w.heap.size, 0, none⟩ = some (.int .u32 x.k) ∧ wx.cell? ⟨w.heap.size, 1, none⟩ = some (.int .i32 x.r) ∧ wx.cell? ⟨w.heap.size, 2, none⟩ = some (.int .i32 x.ax) ∧ wx.cell? ⟨w.heap.size, 3, none⟩ = some (.int .i32 x.ay) ∧ wx.cell? ⟨w.heap.size, 4, none⟩ = some (.int .i32 x.m) ∧ wx.cell? ⟨w.heap.size, 5, none⟩ = some (.int .i32 x.o) ∧ wx.cell? ⟨w.heap.size, 6, none⟩ = some (.int .i32 x.px) ∧ wx.cell? ⟨w.heap.size, 7, none⟩ = some (.int .i32 x.py) ∧ wx.cell? ⟨w.heap.size, 8, none⟩ = some (.int .i32 x.vx) ∧ wx.cell? ⟨w.heap.size, 9, none⟩ = some (.int .i32 x.vy) ∧ wx.cell? ⟨w.heap.size + 1, 0, none⟩ = some (.int .u32 y.k) ∧ wx.cell? ⟨w.heap.size + 1, 1, none⟩ = some (.int .i32 y.r) ∧ wx.cell? ⟨w.heap.size + 1, 2, none⟩ = some (.int .i32 y.ax) ∧ wx.cell? ⟨w.heap.size + 1, 3, none⟩ = some (.int .i32 y.ay) ∧ wx.cell? ⟨w.heap.size + 1, 4, none⟩ = some (.int .i32 y.m) ∧ wx.cell? ⟨w.heap.size + 1, 5, none⟩ = some (.int .i32 y.o) ∧ wx.cell? ⟨w.heap.size + 1, 6, none⟩ = some (.int .i32 y.px) ∧ wx.cell? ⟨w.heap.size + 1, 7, none⟩ = some (.int .i32 y.py) ∧ wx.cell? ⟨w.heap.size + 1, 8, none⟩ = some (.int .i32 y.vx) ∧ wx.cell? ⟨w.heap.size + 1, 9, none⟩ = some (.int .i32 y.vy) ∧ wx.cell? ⟨w3.heap.size, 0, none⟩ = some (.int .u32 v0) ∧ wx.cell? ⟨w3.heap.size, 1, none⟩ = some (.int .u32 v1) ∧ wx.cell? ⟨w3.heap.size, 2, none⟩ = some (.int .i32 v2) ∧ wx.cell? ⟨w3.heap.size, 3, none⟩ = some (.int .i32 v3) ∧ wx.cell? ⟨w3.heap.size, 4, none⟩ = some (.int .i32 v4) ∧ (wx.frozen? ⟨u1, 0, none⟩ = false ∧ wx.frozen? ⟨u2, 0, none⟩ = false) ∧ Kep w.heap.size w wx)
  case first =>
    go_region_held3 (fun w' => w'.cell? ⟨w.heap.size, 0, none⟩ = some (.int .u32 x.k) ∧ w'.cell? ⟨w.heap.size, 1, none⟩ = some (.int .i32 x.r) ∧ w'.cell? ⟨w.heap.size, 2, none⟩ = some (.int .i32 x.ax) ∧ w'.cell? ⟨w.heap.size, 3, none⟩ = some (.int .i32 x.ay) ∧ w'.cell? ⟨w.heap.size, 4, none⟩ = some (.int .i32 x.m) ∧ w'.cell? ⟨w.heap.size, 5, none⟩ = some (.int .i32 x.o) ∧ w'.cell? ⟨w.heap.size, 6, none⟩ = some (.int .i32 x.px) ∧ w'.cell? ⟨w.heap.size, 7, none⟩ = some (.int .i32 x.py) ∧ w'.cell? ⟨w.heap.size, 8, none⟩ = some (.int .i32 x.vx) ∧ w'.cell? ⟨w.heap.size, 9, none⟩ = some (.int .i32 x.vy) ∧ w'.cell? ⟨w.heap.size + 1, 0, none⟩ = some (.int .u32 y.k) ∧ w'.cell? ⟨w.heap.size + 1, 1, none⟩ = some (.int .i32 y.r) ∧ w'.cell? ⟨w.heap.size + 1, 2, none⟩ = some (.int .i32 y.ax) ∧ w'.cell? ⟨w.heap.size + 1, 3, none⟩ = some (.int .i32 y.ay) ∧ w'.cell? ⟨w.heap.size + 1, 4, none⟩ = some (.int .i32 y.m) ∧ w'.cell? ⟨w.heap.size + 1, 5, none⟩ = some (.int .i32 y.o) ∧ w'.cell? ⟨w.heap.size + 1, 6, none⟩ = some (.int .i32 y.px) ∧ w'.cell? ⟨w.heap.size + 1, 7, none⟩ = some (.int .i32 y.py) ∧ w'.cell? ⟨w.heap.size + 1, 8, none⟩ = some (.int .i32 y.vx) ∧ w'.cell? ⟨w.heap.size + 1, 9, none⟩ = some (.int .i32 y.vy) ∧ w'.cell? ⟨w3.heap.size, 0, none⟩ = some (.int .u32 v0) ∧ w'.cell? ⟨w3.heap.size, 1, none⟩ = some (.int .u32 v1) ∧ w'.cell? ⟨w3.heap.size, 2, none⟩ = some (.int .i32 v2) ∧ w'.cell? ⟨w3.heap.size, 3, none⟩ = some (.int .i32 v3) ∧ w'.cell? ⟨w3.heap.size, 4, none⟩ = some (.int .i32 v4) ∧ Kep w.heap.size w w')
      (first | (with_reducible assumption) | exact ⟨(by (repeat (first | rw [World.cell?_drew] | rw [World.cell?_alloc_past _ _ _ (by first | omega | (simp; done) | (simp; omega))])); exact x0), (by (repeat (first | rw [World.cell?_drew] | rw [World.cell?_alloc_past _ _ _ (by first | omega | (simp; done) | (simp; omega))])); exact x1), (by (repeat (first | rw [World.cell?_drew] | rw [World.cell?_alloc_past _ _ _ (by first | omega | (simp; done) | (simp; omega))])); exact x2), (by (repeat (first | rw [World.cell?_drew] | rw [World.cell?_alloc_past _ _ _ (by first | omega | (simp; done) | (simp; omega))])); exact x3), (by (repeat (first | rw [World.cell?_drew] | rw [World.cell?_alloc_past _ _ _ (by first | omega | (simp; done) | (simp; omega))])); exact x4), (by (repeat (first | rw [World.cell?_drew] | rw [World.cell?_alloc_past _ _ _ (by first | omega | (simp; done) | (simp; omega))])); exact x5), (by (repeat (first | rw [World.cell?_drew] | rw [World.cell?_alloc_past _ _ _ (by first | omega | (simp; done) | (simp; omega))])); exact x6), (by (repeat (first | rw [World.cell?_drew] | rw [World.cell?_alloc_past _ _ _ (by first | omega | (simp; done) | (simp; omega))])); exact x7), (by (repeat (first | rw [World.cell?_drew] | rw [World.cell?_alloc_past _ _ _ (by first | omega | (simp; done) | (simp; omega))])); exact x8), (by (repeat (first | rw [World.cell?_drew] | rw [World.cell?_alloc_past _ _ _ (by first | omega | (simp; done) | (simp; omega))])); exact x9), (by (repeat (first | rw [World.cell?_drew] | rw [World.cell?_alloc_past _ _ _ (by first | omega | (simp; done) | (simp; omega))])); exact y0), (by (repeat (first | rw [World.cell?_drew] | rw [World.cell?_alloc_past _ _ _ (by first | omega | (simp; done) | (simp; omega))])); exact y1), (by (repeat (first | rw [World.cell?_drew] | rw [World.cell?_alloc_past _ _ _ (by first | omega | (simp; done) | (simp; omega))])); exact y2), (by (repeat (first | rw [World.cell?_drew] | rw [World.cell?_alloc_past _ _ _ (by first | omega | (simp; done) | (simp; omega))])); exact y3), (by (repeat (first | rw [World.cell?_drew] | rw [World.cell?_alloc_past _ _ _ (by first | omega | (simp; done) | (simp; omega))])); exact y4), (by (repeat (first | rw [World.cell?_drew] | rw [World.cell?_alloc_past _ _ _ (by first | omega | (simp; done) | (simp; omega))])); exact y5), (by (repeat (first | rw [World.cell?_drew] | rw [World.cell?_alloc_past _ _ _ (by first | omega | (simp; done) | (simp; omega))])); exact y6), (by (repeat (first | rw [World.cell?_drew] | rw [World.cell?_alloc_past _ _ _ (by first | omega | (simp; done) | (simp; omega))])); exact y7), (by (repeat (first | rw [World.cell?_drew] | rw [World.cell?_alloc_past _ _ _ (by first | omega | (simp; done) | (simp; omega))])); exact y8), (by (repeat (first | rw [World.cell?_drew] | rw [World.cell?_alloc_past _ _ _ (by first | omega | (simp; done) | (simp; omega))])); exact y9), (by (repeat (first | rw [World.cell?_drew] | rw [World.cell?_alloc_past _ _ _ (by first | omega | (simp; done) | (simp; omega))])); exact c0), (by (repeat (first | rw [World.cell?_drew] | rw [World.cell?_alloc_past _ _ _ (by first | omega | (simp; done) | (simp; omega))])); exact c1), (by (repeat (first | rw [World.cell?_drew] | rw [World.cell?_alloc_past _ _ _ (by first | omega | (simp; done) | (simp; omega))])); exact c2), (by (repeat (first | rw [World.cell?_drew] | rw [World.cell?_alloc_past _ _ _ (by first | omega | (simp; done) | (simp; omega))])); exact c3), (by (repeat (first | rw [World.cell?_drew] | rw [World.cell?_alloc_past _ _ _ (by first | omega | (simp; done) | (simp; omega))])); exact c4), by (repeat first | exact gg | refine kep_drew ?_ | refine kep_more ?_ _)⟩)
      (fail)
    all_goals (
      go_wp2_with fail
      go_meet
      refine ⟨_, _, rfl, rfl, by (refine ⟨?_, ?_, ?_⟩ <;> first | (simp; done) | omega), ?_⟩
      exact ⟨(by (repeat (first | rw [World.cell?_drew] | rw [World.cell?_alloc_past _ _ _ (by first | (simp; done) | (simp; omega))])); rw [World.cell?_alloc_at _ _ _ _ (by simp)]; rfl), (by (repeat (first | rw [World.cell?_drew] | rw [World.cell?_alloc_past _ _ _ (by first | (simp; done) | (simp; omega))])); rw [World.cell?_alloc_at _ _ _ _ (by simp)]; rfl), (by (repeat (first | rw [World.cell?_drew] | rw [World.cell?_alloc_past _ _ _ (by first | (simp; done) | (simp; omega))])); rw [World.cell?_alloc_at _ _ _ _ (by simp)]; rfl), (by (repeat (first | rw [World.cell?_drew] | rw [World.cell?_alloc_past _ _ _ (by first | (simp; done) | (simp; omega))])); rw [World.cell?_alloc_at _ _ _ _ (by simp)]; rfl), (by (repeat (first | rw [World.cell?_drew] | rw [World.cell?_alloc_past _ _ _ (by first | (simp; done) | (simp; omega))])); rw [World.cell?_alloc_at _ _ _ _ (by simp)]; rfl), (by (repeat (first | rw [World.cell?_drew] | rw [World.cell?_alloc_past _ _ _ (by first | (simp; done) | (simp; omega))])); rw [World.cell?_alloc_at _ _ _ _ (by simp)]; rfl), (by (repeat (first | rw [World.cell?_drew] | rw [World.cell?_alloc_past _ _ _ (by first | (simp; done) | (simp; omega))])); rw [World.cell?_alloc_at _ _ _ _ (by simp)]; rfl), (by (repeat (first | rw [World.cell?_drew] | rw [World.cell?_alloc_past _ _ _ (by first | (simp; done) | (simp; omega))])); rw [World.cell?_alloc_at _ _ _ _ (by simp)]; rfl), (by (repeat (first | rw [World.cell?_drew] | rw [World.cell?_alloc_past _ _ _ (by first | (simp; done) | (simp; omega))])); rw [World.cell?_alloc_at _ _ _ _ (by simp)]; rfl), (by (repeat (first | rw [World.cell?_drew] | rw [World.cell?_alloc_past _ _ _ (by first | (simp; done) | (simp; omega))])); rw [World.cell?_alloc_at _ _ _ _ (by simp)]; rfl), (by (repeat (first | rw [World.cell?_drew] | rw [World.cell?_alloc_past _ _ _ (by first | (simp; done) | (simp; omega))])); rw [World.cell?_alloc_at _ _ _ _ (by simp)]; rfl), (by (repeat (first | rw [World.cell?_drew] | rw [World.cell?_alloc_past _ _ _ (by first | (simp; done) | (simp; omega))])); rw [World.cell?_alloc_at _ _ _ _ (by simp)]; rfl), (by (repeat (first | rw [World.cell?_drew] | rw [World.cell?_alloc_past _ _ _ (by first | (simp; done) | (simp; omega))])); rw [World.cell?_alloc_at _ _ _ _ (by simp)]; rfl), (by (repeat (first | rw [World.cell?_drew] | rw [World.cell?_alloc_past _ _ _ (by first | (simp; done) | (simp; omega))])); rw [World.cell?_alloc_at _ _ _ _ (by simp)]; rfl), (by (repeat (first | rw [World.cell?_drew] | rw [World.cell?_alloc_past _ _ _ (by first | (simp; done) | (simp; omega))])); rw [World.cell?_alloc_at _ _ _ _ (by simp)]; rfl), (by (repeat (first | rw [World.cell?_drew] | rw [World.cell?_alloc_past _ _ _ (by first | (simp; done) | (simp; omega))])); rw [World.cell?_alloc_at _ _ _ _ (by simp)]; rfl), (by (repeat (first | rw [World.cell?_drew] | rw [World.cell?_alloc_past _ _ _ (by first | (simp; done) | (simp; omega))])); rw [World.cell?_alloc_at _ _ _ _ (by simp)]; rfl), (by (repeat (first | rw [World.cell?_drew] | rw [World.cell?_alloc_past _ _ _ (by first | (simp; done) | (simp; omega))])); rw [World.cell?_alloc_at _ _ _ _ (by simp)]; rfl), (by (repeat (first | rw [World.cell?_drew] | rw [World.cell?_alloc_past _ _ _ (by first | (simp; done) | (simp; omega))])); rw [World.cell?_alloc_at _ _ _ _ (by simp)]; rfl), (by (repeat (first | rw [World.cell?_drew] | rw [World.cell?_alloc_past _ _ _ (by first | (simp; done) | (simp; omega))])); rw [World.cell?_alloc_at _ _ _ _ (by simp)]; rfl), (by (repeat rw [World.cell?_drew]); exact Kep.all (kep_more (kep_more (Kep.refl _ _) _) _) x0), (by (repeat rw [World.cell?_drew]); exact Kep.all (kep_more (kep_more (Kep.refl _ _) _) _) x1), (by (repeat rw [World.cell?_drew]); exact Kep.all (kep_more (kep_more (Kep.refl _ _) _) _) x2), (by (repeat rw [World.cell?_drew]); exact Kep.all (kep_more (kep_more (Kep.refl _ _) _) _) x3), (by (repeat rw [World.cell?_drew]); exact Kep.all (kep_more (kep_more (Kep.refl _ _) _) _) x4), (by (repeat rw [World.cell?_drew]); exact Kep.all (kep_more (kep_more (Kep.refl _ _) _) _) x5), (by (repeat rw [World.cell?_drew]); exact Kep.all (kep_more (kep_more (Kep.refl _ _) _) _) x6), (by (repeat rw [World.cell?_drew]); exact Kep.all (kep_more (kep_more (Kep.refl _ _) _) _) x7), (by (repeat rw [World.cell?_drew]); exact Kep.all (kep_more (kep_more (Kep.refl _ _) _) _) x8), (by (repeat rw [World.cell?_drew]); exact Kep.all (kep_more (kep_more (Kep.refl _ _) _) _) x9), (by (repeat rw [World.cell?_drew]); exact Kep.all (kep_more (kep_more (Kep.refl _ _) _) _) y0), (by (repeat rw [World.cell?_drew]); exact Kep.all (kep_more (kep_more (Kep.refl _ _) _) _) y1), (by (repeat rw [World.cell?_drew]); exact Kep.all (kep_more (kep_more (Kep.refl _ _) _) _) y2), (by (repeat rw [World.cell?_drew]); exact Kep.all (kep_more (kep_more (Kep.refl _ _) _) _) y3), (by (repeat rw [World.cell?_drew]); exact Kep.all (kep_more (kep_more (Kep.refl _ _) _) _) y4), (by (repeat rw [World.cell?_drew]); exact Kep.all (kep_more (kep_more (Kep.refl _ _) _) _) y5), (by (repeat rw [World.cell?_drew]); exact Kep.all (kep_more (kep_more (Kep.refl _ _) _) _) y6), (by (repeat rw [World.cell?_drew]); exact Kep.all (kep_more (kep_more (Kep.refl _ _) _) _) y7), (by (repeat rw [World.cell?_drew]); exact Kep.all (kep_more (kep_more (Kep.refl _ _) _) _) y8), (by (repeat rw [World.cell?_drew]); exact Kep.all (kep_more (kep_more (Kep.refl _ _) _) _) y9), (by (repeat rw [World.cell?_drew]); exact Kep.all (kep_more (kep_more (Kep.refl _ _) _) _) c0), (by (repeat rw [World.cell?_drew]); exact Kep.all (kep_more (kep_more (Kep.refl _ _) _) _) c1), (by (repeat rw [World.cell?_drew]); exact Kep.all (kep_more (kep_more (Kep.refl _ _) _) _) c2), (by (repeat rw [World.cell?_drew]); exact Kep.all (kep_more (kep_more (Kep.refl _ _) _) _) c3), (by (repeat rw [World.cell?_drew]); exact Kep.all (kep_more (kep_more (Kep.refl _ _) _) _) c4), ⟨(by (repeat (first | rw [World.frozen?_drew] | rw [World.frozen?_alloc_past _ _ _ (by first | (simp; done) | (simp; omega))])); rw [World.frozen?_alloc_at _ _ _ _ (by simp)]), (by (repeat (first | rw [World.frozen?_drew] | rw [World.frozen?_alloc_past _ _ _ (by first | (simp; done) | (simp; omega))])); rw [World.frozen?_alloc_at _ _ _ _ (by simp)])⟩, by repeat (first | exact kep_more (kep_more gg _) _ | exact kep_drew (kep_more (kep_more gg _) _) | refine kep_drew ?_)⟩)
  case rest =>
    obtain ⟨u1, u2, rfl, rfl, hne, hx0, hx1, hx2, hx3, hx4, hx5, hx6, hx7, hx8, hx9, hy0, hy1, hy2, hy3, hy4, hy5, hy6, hy7, hy8, hy9, x0, x1, x2, x3, x4, x5, x6, x7, x8, x9, y0, y1, y2, y3, y4, y5, y6, y7, y8, y9, c0, c1, c2, c3, c4, hfz, gg⟩ := hcut
    obtain ⟨f1, f2⟩ := hfz
    obtain ⟨n1, n2, n3⟩ := hne
    go_wp2_with fail
    go_region
    generalize hW : World.drew (World.setCell (World.setCell _ _ _) _ _) = W7
    replace hx1 : W7.cell? ⟨u1, 1, none⟩ = some (.int .i32 x.r) := by rw [← hW, World.cell?_drew]; exact sset_far (by rw [World.cell?_setCell_other (h := by simp)]; exact hx1) n1.symm
    replace hx2 : W7.cell? ⟨u1, 2, none⟩ = some (.int .i32 x.ax) := by rw [← hW, World.cell?_drew]; exact sset_far (by rw [World.cell?_setCell_other (h := by simp)]; exact hx2) n1.symm
    replace hx3 : W7.cell? ⟨u1, 3, none⟩ = some (.int .i32 x.ay) := by rw [← hW, World.cell?_drew]; exact sset_far (by rw [World.cell?_setCell_other (h := by simp)]; exact hx3) n1.symm
    replace hx4 : W7.cell? ⟨u1, 4, none⟩ = some (.int .i32 x.m) := by rw [← hW, World.cell?_drew]; exact sset_far (by rw [World.cell?_setCell_other (h := by simp)]; exact hx4) n1.symm
    replace hx5 : W7.cell? ⟨u1, 5, none⟩ = some (.int .i32 x.o) := by rw [← hW, World.cell?_drew]; exact sset_far (by rw [World.cell?_setCell_other (h := by simp)]; exact hx5) n1.symm
    replace hx6 : W7.cell? ⟨u1, 6, none⟩ = some (.int .i32 x.px) := by rw [← hW, World.cell?_drew]; exact sset_far (by rw [World.cell?_setCell_other (h := by simp)]; exact hx6) n1.symm
    replace hx7 : W7.cell? ⟨u1, 7, none⟩ = some (.int .i32 x.py) := by rw [← hW, World.cell?_drew]; exact sset_far (by rw [World.cell?_setCell_other (h := by simp)]; exact hx7) n1.symm
    replace hx8 : W7.cell? ⟨u1, 8, none⟩ = some (.int .i32 x.vx) := by rw [← hW, World.cell?_drew]; exact sset_far (by rw [World.cell?_setCell_other (h := by simp)]; exact hx8) n1.symm
    replace hx9 : W7.cell? ⟨u1, 9, none⟩ = some (.int .i32 x.vy) := by rw [← hW, World.cell?_drew]; exact sset_far (by rw [World.cell?_setCell_other (h := by simp)]; exact hx9) n1.symm
    replace hy1 : W7.cell? ⟨u2, 1, none⟩ = some (.int .i32 y.r) := by rw [← hW, World.cell?_drew]; exact (by rw [World.cell?_setCell_other (h := by simp)]; exact sset_far hy1 n1)
    replace hy2 : W7.cell? ⟨u2, 2, none⟩ = some (.int .i32 y.ax) := by rw [← hW, World.cell?_drew]; exact (by rw [World.cell?_setCell_other (h := by simp)]; exact sset_far hy2 n1)
    replace hy3 : W7.cell? ⟨u2, 3, none⟩ = some (.int .i32 y.ay) := by rw [← hW, World.cell?_drew]; exact (by rw [World.cell?_setCell_other (h := by simp)]; exact sset_far hy3 n1)
    replace hy4 : W7.cell? ⟨u2, 4, none⟩ = some (.int .i32 y.m) := by rw [← hW, World.cell?_drew]; exact (by rw [World.cell?_setCell_other (h := by simp)]; exact sset_far hy4 n1)
    replace hy5 : W7.cell? ⟨u2, 5, none⟩ = some (.int .i32 y.o) := by rw [← hW, World.cell?_drew]; exact (by rw [World.cell?_setCell_other (h := by simp)]; exact sset_far hy5 n1)
    replace hy6 : W7.cell? ⟨u2, 6, none⟩ = some (.int .i32 y.px) := by rw [← hW, World.cell?_drew]; exact (by rw [World.cell?_setCell_other (h := by simp)]; exact sset_far hy6 n1)
    replace hy7 : W7.cell? ⟨u2, 7, none⟩ = some (.int .i32 y.py) := by rw [← hW, World.cell?_drew]; exact (by rw [World.cell?_setCell_other (h := by simp)]; exact sset_far hy7 n1)
    replace hy8 : W7.cell? ⟨u2, 8, none⟩ = some (.int .i32 y.vx) := by rw [← hW, World.cell?_drew]; exact (by rw [World.cell?_setCell_other (h := by simp)]; exact sset_far hy8 n1)
    replace hy9 : W7.cell? ⟨u2, 9, none⟩ = some (.int .i32 y.vy) := by rw [← hW, World.cell?_drew]; exact (by rw [World.cell?_setCell_other (h := by simp)]; exact sset_far hy9 n1)
    replace hx0 : W7.cell? ⟨u1, 0, none⟩ = some (.int .u32 y.k) := by rw [← hW, World.cell?_drew]; exact sset_far (World.cell?_setCell_same' _ _ _ (by rw [hx0]; rfl)) n1.symm
    replace hy0 : W7.cell? ⟨u2, 0, none⟩ = some (.int .u32 x.k) := by rw [← hW, World.cell?_drew]; exact World.cell?_setCell_same' _ _ _ (by rw [sset_far hy0 n1]; rfl)
    replace c0 : W7.cell? ⟨w3.heap.size, 0, none⟩ = some (.int .u32 v0) := by rw [← hW, World.cell?_drew]; exact sset_far (sset_far c0 (by dsimp only; omega)) (by dsimp only; omega)
    replace c1 : W7.cell? ⟨w3.heap.size, 1, none⟩ = some (.int .u32 v1) := by rw [← hW, World.cell?_drew]; exact sset_far (sset_far c1 (by dsimp only; omega)) (by dsimp only; omega)
    replace c2 : W7.cell? ⟨w3.heap.size, 2, none⟩ = some (.int .i32 v2) := by rw [← hW, World.cell?_drew]; exact sset_far (sset_far c2 (by dsimp only; omega)) (by dsimp only; omega)
    replace c3 : W7.cell? ⟨w3.heap.size, 3, none⟩ = some (.int .i32 v3) := by rw [← hW, World.cell?_drew]; exact sset_far (sset_far c3 (by dsimp only; omega)) (by dsimp only; omega)
    replace c4 : W7.cell? ⟨w3.heap.size, 4, none⟩ = some (.int .i32 v4) := by rw [← hW, World.cell?_drew]; exact sset_far (sset_far c4 (by dsimp only; omega)) (by dsimp only; omega)
    replace gg : Kep w.heap.size w W7 := by rw [← hW]; exact kep_drew (kep_set (kep_set gg (by dsimp only; omega) _) (by dsimp only; omega) _)
    clear hW f1 f2 n1 n2 n3
    have zhx_W7 : u1 < W7.heap.size := World.block_lt_of_cell? _ _ hx0
    have zhy_W7 : u2 < W7.heap.size := World.block_lt_of_cell? _ _ hy0
    have zc_W7 : w3.heap.size < W7.heap.size := World.block_lt_of_cell? _ _ c0
    go_wp2_with (first
      | ((with_reducible refine (CC.out _).mono ?_); rintro e w8 ⟨rfl, g8⟩
         replace c0 := Kep.all g8 (a := ⟨w3.heap.size, 0, none⟩) (v := .int .u32 v0) c0
         replace c1 := Kep.all g8 (a := ⟨w3.heap.size, 1, none⟩) (v := .int .u32 v1) c1
         replace c2 := Kep.all g8 (a := ⟨w3.heap.size, 2, none⟩) (v := .int .i32 v2) c2
         replace c3 := Kep.all g8 (a := ⟨w3.heap.size, 3, none⟩) (v := .int .i32 v3) c3
         replace c4 := Kep.all g8 (a := ⟨w3.heap.size, 4, none⟩) (v := .int .i32 v4) c4
         replace gg := kep_next gg g8
         have zc_w8 : w3.heap.size < w8.heap.size := World.block_lt_of_cell? _ _ c0))
    go_ret
    exact ⟨rfl, by first | exact gg | exact kep_more gg _⟩
set_option maxRecDepth 100000 in
set_option maxHeartbeats 4000000 in
theorem ksl_ok (O : QOps) (AW : Hid QAwake) (x y : Bd) (hr : rgtB x y = true) (w : World) : Calls Try.prog 5 #[.agg #[.int .u32 x.k, .int .i32 x.r, .int .i32 x.ax, .int .i32 x.ay, .int .i32 x.m, .int .i32 x.o, .int .i32 x.px, .int .i32 x.py, .int .i32 x.vx, .int .i32 x.vy], .agg #[.int .u32 y.k, .int .i32 y.r, .int .i32 y.ax, .int .i32 y.ay, .int .i32 y.m, .int .i32 y.o, .int .i32 y.px, .int .i32 y.py, .int .i32 y.vx, .int .i32 y.vy]] w fun e w' => e = .returned (.bool true) ∧ Kep w.heap.size w w' := by
  have RR := Lib.hid (krr x y true hr)
  obtain ⟨hx, hy, hk⟩ := rgtB_iff.1 hr
  have C1 := O.of_ hx hy hk
  have C2 := O.of_ hy hx (fun q => hk q.symm)
  have C3 := O.gap hx hy hk
  have C4 := O.gap hy hx (fun q => hk q.symm)
  have e := low_comm hk
  rw [← e.1, ← e.2] at C2 C4
  have CE : decide (x.ax = 0 ∧ x.ay = 0) = true → decide (y.ax = 0 ∧ y.ay = 0) = true → tchB (lowB x y) (higB x y) = true → decide (x.px = y.px ∧ x.py = y.py) = false → _ := fun c1 c2 h c4 => sym_xy hx hy hk (of_decide_eq_true c1) (of_decide_eq_true c2) (of_decide_eq_false c4) h _ _ rfl rfl
  have C5 := O.of_ (x := { x with k := y.k }) (y := { y with k := x.k }) hx hy (fun q => hk q.symm)
  generalize conV (lowB { x with k := y.k } { y with k := x.k }) (higB { x with k := y.k } { y with k := x.k }) = u at *
  generalize tchB (lowB { x with k := y.k } { y with k := x.k }) (higB { x with k := y.k } { y with k := x.k }) = z5 at *
  generalize conV (lowB x y) (higB x y) = v at *
  generalize tchB (lowB x y) (higB x y) = z at *
  generalize gapC (lowB x y) (higB x y) = g9 at *
  obtain ⟨v0, v1, v2, v3, v4⟩ := v
  obtain ⟨u0, u1, u2, u3, u4⟩ := u
  refine ksl_main AW x y v0 v1 v2 v3 v4 g9 z _ _ _ RR (Lib.hid C1) (Lib.hid C2) (Lib.hid C3) (Lib.hid C4) rfl rfl rfl (fun c1 c2 h c4 => ?_) w
  obtain ⟨k1, k2, k3, k4⟩ := CE c1 c2 h c4
  dsimp only at k2 k3 k4
  subst k1 k2
  exact ⟨u0, u1, u2, u3, u2 + v2, u3 + v3, by rw [IntKind.wrap_i32]; omega, by rw [IntKind.wrap_i32]; omega, k3, k4, Lib.hid C5⟩
/-- The law ContactSymmetric. -/
theorem ksl_law (O : QOps) (AW : QAwake) (x y : Bd) (w : World) : Calls Try.prog 5 #[.agg #[.int .u32 x.k, .int .i32 x.r, .int .i32 x.ax, .int .i32 x.ay, .int .i32 x.m, .int .i32 x.o, .int .i32 x.px, .int .i32 x.py, .int .i32 x.vx, .int .i32 x.vy], .agg #[.int .u32 y.k, .int .i32 y.r, .int .i32 y.ax, .int .i32 y.ay, .int .i32 y.m, .int .i32 y.o, .int .i32 y.px, .int .i32 y.py, .int .i32 y.vx, .int .i32 y.vy]] w fun e w' => e = .returned (.bool true) ∧ Kep w.heap.size w w' := by
  cases hr : rgtB x y
  · exact ksl_bad (Lib.hid AW) x y hr w
  · exact ksl_ok O (Lib.hid AW) x y hr w
end Go.Proofs.Ytlcenopebgkjgaa
