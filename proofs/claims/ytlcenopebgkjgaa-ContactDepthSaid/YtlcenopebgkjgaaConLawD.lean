/-
  Package contact: the law ContactDepth.
-/
import Derived.Test.YtlcenopebgkjgaaConCon
import Derived.Test.YtlcenopebgkjgaaBoxAll
import Derived.Deep.DeepCutAuto
import Derived.Deep.QuietTactic
import Derived.BigQuiet
namespace Go.Proofs.Ytlcenopebgkjgaa
open Go.RowKit Go.Lib

abbrev KBo (x : Bd) (a b c d : Int) : Prop := ∀ w, Calls Try.prog 16 #[.agg #[.int .u32 x.k, .int .i32 x.r, .int .i32 x.ax, .int .i32 x.ay, .int .i32 x.m, .int .i32 x.o, .int .i32 x.px, .int .i32 x.py, .int .i32 x.vx, .int .i32 x.vy]] w fun e w' => e = .returned (.agg #[.int .i32 a, .int .i32 b, .int .i32 c, .int .i32 d]) ∧ Kep w.heap.size w w'
abbrev KBv (xa ya za ta xb yb zb tb : Int) (z : Bool) : Prop := ∀ w, Calls Try.prog 15 #[.agg #[.int .i32 xa, .int .i32 ya, .int .i32 za, .int .i32 ta], .agg #[.int .i32 xb, .int .i32 yb, .int .i32 zb, .int .i32 tb]] w fun e w' => e = .returned (.bool z) ∧ Kep w.heap.size w w'
theorem kbo {x : Bd} (h : okC x) : KBo x (x.px - exC x) (x.py - eyC x) (x.px + exC x) (x.py + eyC x) := fun w => by
  obtain ⟨h1, ⟨h2, h3⟩, h4, h5⟩ := okC_lim h
  have C1 := Lib.hid (rab (n := x.ax) (q := max x.ax (-x.ax)) (by omega) (by omega) rfl)
  have C2 := Lib.hid (rab (n := x.ay) (q := max x.ay (-x.ay)) (by omega) (by omega) rfl)
  exact kep_calls (rof x.k x.r x.ax x.ay x.m x.o x.px x.py x.vx x.vy _ _ (exC x) (eyC x) _ _ _ _ C1 C2 (wrp (by unfold exC; rfl) (by omega) (by omega)) (wrp (by unfold eyC; rfl) (by omega) (by omega)) (wrp rfl (by unfold exC; omega) (by unfold exC; omega)) (wrp rfl (by unfold eyC; omega) (by unfold eyC; omega)) (wrp rfl (by unfold exC; omega) (by unfold exC; omega)) (wrp rfl (by unfold eyC; omega) (by unfold eyC; omega)) w)
set_option maxRecDepth 100000 in
set_option maxHeartbeats 2000000 in
theorem kdl_bad (AW : Hid QAwake) (x y : Bd) (hr : rgtB x y = false) (w : World) : Calls Try.prog 4 #[.agg #[.int .u32 x.k, .int .i32 x.r, .int .i32 x.ax, .int .i32 x.ay, .int .i32 x.m, .int .i32 x.o, .int .i32 x.px, .int .i32 x.py, .int .i32 x.vx, .int .i32 x.vy], .agg #[.int .u32 y.k, .int .i32 y.r, .int .i32 y.ax, .int .i32 y.ay, .int .i32 y.m, .int .i32 y.o, .int .i32 y.px, .int .i32 y.py, .int .i32 y.vx, .int .i32 y.vy]] w fun e w' => e = .returned (.bool true) ∧ Kep w.heap.size w w' := by
  have RR := Lib.hid (krr x y false hr)
  clear hr
  go_enter Try.func4, Try.ntmps4
  go_wp2_with (first
    | ((with_reducible refine (AW.out _).mono ?_); rintro e w1 ⟨rfl, g1⟩
       first
         | (replace gg := kep_next gg g1)
         | (have x0 := Kep.all g1 (a := ⟨w.heap.size, 0, none⟩) (v := .int .u32 x.k) (by (repeat (first | rw [World.cell?_drew] | rw [World.cell?_alloc_past _ _ _ (by first | (simp; done) | (simp; omega))])); rw [World.cell?_alloc_at _ _ _ _ (by simp)]; rfl)
            have x1 := Kep.all g1 (a := ⟨w.heap.size, 1, none⟩) (v := .int .i32 x.r) (by (repeat (first | rw [World.cell?_drew] | rw [World.cell?_alloc_past _ _ _ (by first | (simp; done) | (simp; omega))])); rw [World.cell?_alloc_at _ _ _ _ (by simp)]; rfl)
            have x2 := Kep.all g1 (a := ⟨w.heap.size, 2, none⟩) (v := .int .i32 x.ax) (by (repeat (first | rw [World.cell?_drew] | rw [World.cell?_alloc_past _ _ _ (by first | (simp; done) | (simp; omega))])); rw [World.cell?_alloc_at _ _ _ _ (by simp)]; rfl)
            have x3 := Kep.all g1 (a := ⟨w.heap.size, 3, none⟩) (v := .int .i32 x.ay) (by (repeat (first | rw [World.cell?_drew] | rw [World.cell?_alloc_past _ _ _ (by first | (simp; done) | (simp; omega))])); rw [World.cell?_alloc_at _ _ _ _ (by simp)]; rfl)
            have x4 := Kep.all g1 (a := ⟨w.heap.size, 4, none⟩) (v := .int .i32 x.m) (by (repeat (first | rw [World.cell?_drew] | rw [World.cell?_alloc_past _ _ _ (by first | (simp; done) | (simp; omega))])); rw [World.cell?_alloc_at _ _ _ _ (by simp)]; rfl)
            have x5 := Kep.all g1 (a := ⟨w.heap.size, 5, none⟩) (v := .int .i32 x.o) (by (repeat (first | rw [World.cell?_drew] | rw [World.cell?_alloc_past _ _ _ (by first | (simp; done) | (simp; omega))])); rw [World.cell?_alloc_at _ _ _ _ (by simp)]; rfl)
            have x6 := Kep.all g1 (a := ⟨w.heap.size, 6, none⟩) (v := .int .i32 x.px) (by (repeat (first | rw [World.cell?_drew] | rw [World.cell?_alloc_past _ _ _ (by first | (simp; done) | (simp; omega))])); rw [World.cell?_alloc_at _ _ _ _ (by simp)]; rfl)
            have x7 := Kep.all g1 (a := ⟨w.heap.size, 7, none⟩) (v := .int .i32 x.py) (by (repeat (first | rw [World.cell?_drew] | rw [World.cell?_alloc_past _ _ _ (by first | (simp; done) | (simp; omega))])); rw [World.cell?_alloc_at _ _ _ _ (by simp)]; rfl)
            have x8 := Kep.all g1 (a := ⟨w.heap.size, 8, none⟩) (v := .int .i32 x.vx) (by (repeat (first | rw [World.cell?_drew] | rw [World.cell?_alloc_past _ _ _ (by first | (simp; done) | (simp; omega))])); rw [World.cell?_alloc_at _ _ _ _ (by simp)]; rfl)
            have x9 := Kep.all g1 (a := ⟨w.heap.size, 9, none⟩) (v := .int .i32 x.vy) (by (repeat (first | rw [World.cell?_drew] | rw [World.cell?_alloc_past _ _ _ (by first | (simp; done) | (simp; omega))])); rw [World.cell?_alloc_at _ _ _ _ (by simp)]; rfl)
            have y0 := Kep.all g1 (a := ⟨w.heap.size + 1, 0, none⟩) (v := .int .u32 y.k) (by (repeat (first | rw [World.cell?_drew] | rw [World.cell?_alloc_past _ _ _ (by first | (simp; done) | (simp; omega))])); rw [World.cell?_alloc_at _ _ _ _ (by simp)]; rfl)
            have y1 := Kep.all g1 (a := ⟨w.heap.size + 1, 1, none⟩) (v := .int .i32 y.r) (by (repeat (first | rw [World.cell?_drew] | rw [World.cell?_alloc_past _ _ _ (by first | (simp; done) | (simp; omega))])); rw [World.cell?_alloc_at _ _ _ _ (by simp)]; rfl)
            have y2 := Kep.all g1 (a := ⟨w.heap.size + 1, 2, none⟩) (v := .int .i32 y.ax) (by (repeat (first | rw [World.cell?_drew] | rw [World.cell?_alloc_past _ _ _ (by first | (simp; done) | (simp; omega))])); rw [World.cell?_alloc_at _ _ _ _ (by simp)]; rfl)
            have y3 := Kep.all g1 (a := ⟨w.heap.size + 1, 3, none⟩) (v := .int .i32 y.ay) (by (repeat (first | rw [World.cell?_drew] | rw [World.cell?_alloc_past _ _ _ (by first | (simp; done) | (simp; omega))])); rw [World.cell?_alloc_at _ _ _ _ (by simp)]; rfl)
            have y4 := Kep.all g1 (a := ⟨w.heap.size + 1, 4, none⟩) (v := .int .i32 y.m) (by (repeat (first | rw [World.cell?_drew] | rw [World.cell?_alloc_past _ _ _ (by first | (simp; done) | (simp; omega))])); rw [World.cell?_alloc_at _ _ _ _ (by simp)]; rfl)
            have y5 := Kep.all g1 (a := ⟨w.heap.size + 1, 5, none⟩) (v := .int .i32 y.o) (by (repeat (first | rw [World.cell?_drew] | rw [World.cell?_alloc_past _ _ _ (by first | (simp; done) | (simp; omega))])); rw [World.cell?_alloc_at _ _ _ _ (by simp)]; rfl)
            have y6 := Kep.all g1 (a := ⟨w.heap.size + 1, 6, none⟩) (v := .int .i32 y.px) (by (repeat (first | rw [World.cell?_drew] | rw [World.cell?_alloc_past _ _ _ (by first | (simp; done) | (simp; omega))])); rw [World.cell?_alloc_at _ _ _ _ (by simp)]; rfl)
            have y7 := Kep.all g1 (a := ⟨w.heap.size + 1, 7, none⟩) (v := .int .i32 y.py) (by (repeat (first | rw [World.cell?_drew] | rw [World.cell?_alloc_past _ _ _ (by first | (simp; done) | (simp; omega))])); rw [World.cell?_alloc_at _ _ _ _ (by simp)]; rfl)
            have y8 := Kep.all g1 (a := ⟨w.heap.size + 1, 8, none⟩) (v := .int .i32 y.vx) (by (repeat (first | rw [World.cell?_drew] | rw [World.cell?_alloc_past _ _ _ (by first | (simp; done) | (simp; omega))])); rw [World.cell?_alloc_at _ _ _ _ (by simp)]; rfl)
            have y9 := Kep.all g1 (a := ⟨w.heap.size + 1, 9, none⟩) (v := .int .i32 y.vy) (by (repeat (first | rw [World.cell?_drew] | rw [World.cell?_alloc_past _ _ _ (by first | (simp; done) | (simp; omega))])); rw [World.cell?_alloc_at _ _ _ _ (by simp)]; rfl)
            have gg := kep_next (kep_more (kep_more (Kep.refl _ _) _) _) g1
            have zx_w1 : w.heap.size < w1.heap.size := World.block_lt_of_cell? _ _ x0
            have zy_w1 : w.heap.size + 1 < w1.heap.size := World.block_lt_of_cell? _ _ y0))
    | ((with_reducible refine (RR.out _).mono ?_); rintro e w2 ⟨rfl, g2⟩
       replace x0 := Kep.all g2 (a := ⟨w.heap.size, 0, none⟩) (v := .int .u32 x.k) x0
       replace x1 := Kep.all g2 (a := ⟨w.heap.size, 1, none⟩) (v := .int .i32 x.r) x1
       replace x2 := Kep.all g2 (a := ⟨w.heap.size, 2, none⟩) (v := .int .i32 x.ax) x2
       replace x3 := Kep.all g2 (a := ⟨w.heap.size, 3, none⟩) (v := .int .i32 x.ay) x3
       replace x4 := Kep.all g2 (a := ⟨w.heap.size, 4, none⟩) (v := .int .i32 x.m) x4
       replace x5 := Kep.all g2 (a := ⟨w.heap.size, 5, none⟩) (v := .int .i32 x.o) x5
       replace x6 := Kep.all g2 (a := ⟨w.heap.size, 6, none⟩) (v := .int .i32 x.px) x6
       replace x7 := Kep.all g2 (a := ⟨w.heap.size, 7, none⟩) (v := .int .i32 x.py) x7
       replace x8 := Kep.all g2 (a := ⟨w.heap.size, 8, none⟩) (v := .int .i32 x.vx) x8
       replace x9 := Kep.all g2 (a := ⟨w.heap.size, 9, none⟩) (v := .int .i32 x.vy) x9
       replace y0 := Kep.all g2 (a := ⟨w.heap.size + 1, 0, none⟩) (v := .int .u32 y.k) y0
       replace y1 := Kep.all g2 (a := ⟨w.heap.size + 1, 1, none⟩) (v := .int .i32 y.r) y1
       replace y2 := Kep.all g2 (a := ⟨w.heap.size + 1, 2, none⟩) (v := .int .i32 y.ax) y2
       replace y3 := Kep.all g2 (a := ⟨w.heap.size + 1, 3, none⟩) (v := .int .i32 y.ay) y3
       replace y4 := Kep.all g2 (a := ⟨w.heap.size + 1, 4, none⟩) (v := .int .i32 y.m) y4
       replace y5 := Kep.all g2 (a := ⟨w.heap.size + 1, 5, none⟩) (v := .int .i32 y.o) y5
       replace y6 := Kep.all g2 (a := ⟨w.heap.size + 1, 6, none⟩) (v := .int .i32 y.px) y6
       replace y7 := Kep.all g2 (a := ⟨w.heap.size + 1, 7, none⟩) (v := .int .i32 y.py) y7
       replace y8 := Kep.all g2 (a := ⟨w.heap.size + 1, 8, none⟩) (v := .int .i32 y.vx) y8
       replace y9 := Kep.all g2 (a := ⟨w.heap.size + 1, 9, none⟩) (v := .int .i32 y.vy) y9
       replace gg := kep_next gg g2
       have zx_w2 : w.heap.size < w2.heap.size := World.block_lt_of_cell? _ _ x0
       have zy_w2 : w.heap.size + 1 < w2.heap.size := World.block_lt_of_cell? _ _ y0))
  go_ret
  exact ⟨rfl, gg⟩
set_option maxRecDepth 100000 in
set_option maxHeartbeats 4000000 in
theorem kdl_ok (O : QOps) (AW : Hid QAwake) (x y : Bd) (hr : rgtB x y = true) (w : World) : Calls Try.prog 4 #[.agg #[.int .u32 x.k, .int .i32 x.r, .int .i32 x.ax, .int .i32 x.ay, .int .i32 x.m, .int .i32 x.o, .int .i32 x.px, .int .i32 x.py, .int .i32 x.vx, .int .i32 x.vy], .agg #[.int .u32 y.k, .int .i32 y.r, .int .i32 y.ax, .int .i32 y.ay, .int .i32 y.m, .int .i32 y.o, .int .i32 y.px, .int .i32 y.py, .int .i32 y.vx, .int .i32 y.vy]] w fun e w' => e = .returned (.bool true) ∧ Kep w.heap.size w w' := by
  have RR := Lib.hid (krr x y true hr)
  obtain ⟨hx, hy, hk⟩ := rgtB_iff.1 hr
  have C1 := O.of_ hx hy hk
  have C3 := O.gap hx hy hk
  have ho := low_ok hx hy
  have hlt := low_lt hk
  have hs := low_csm x y
  have hti := tch_iff ho.1 ho.2
  have hnb := cln_bd ho.1 ho.2
  have hsb := csm_bd hx hy
  cases hz : tchB (lowB x y) (higB x y)
  · have hv : conV (lowB x y) (higB x y) = ⟨0, 0, 0, 0, 0⟩ := by unfold conV; rw [hz]; rfl
    rw [hv, hz] at C1
    obtain ⟨g9, hg⟩ : ∃ g, g = gapC (lowB x y) (higB x y) := ⟨_, rfl⟩
    rw [← hg] at C3
    have q1 : decide (0 ≤ g9) = true := decide_eq_true (by
      rw [hg]
      unfold gapC
      apply Int.not_lt.1
      intro q
      have := hti.2 (by omega)
      rw [hz] at this
      exact absurd this (by decide))
    replace C1 : Hid (∀ w, Calls Try.prog 10 #[.agg #[.int .u32 x.k, .int .i32 x.r, .int .i32 x.ax, .int .i32 x.ay, .int .i32 x.m, .int .i32 x.o, .int .i32 x.px, .int .i32 x.py, .int .i32 x.vx, .int .i32 x.vy], .agg #[.int .u32 y.k, .int .i32 y.r, .int .i32 y.ax, .int .i32 y.ay, .int .i32 y.m, .int .i32 y.o, .int .i32 y.px, .int .i32 y.py, .int .i32 y.vx, .int .i32 y.vy]] w fun e w' => e = .returned (.tuple #[.agg #[.int .u32 0, .int .u32 0, .int .i32 0, .int .i32 0, .int .i32 0], .bool false]) ∧ Kep w.heap.size w w') := Lib.hid C1
    replace C3 := Lib.hid C3
    have vv := fun w => ct_same 0 0 0 0 0 w
    clear hr hx hy hk ho hlt hs hti hnb hsb hz hv hg
    go_enter Try.func4, Try.ntmps4
    go_wp2_with (first
      | ((with_reducible refine (AW.out _).mono ?_); rintro e w1 ⟨rfl, g1⟩
         have x0 := Kep.all g1 (a := ⟨w.heap.size, 0, none⟩) (v := .int .u32 x.k) (by (repeat (first | rw [World.cell?_drew] | rw [World.cell?_alloc_past _ _ _ (by first | (simp; done) | (simp; omega))])); rw [World.cell?_alloc_at _ _ _ _ (by simp)]; rfl)
         have x1 := Kep.all g1 (a := ⟨w.heap.size, 1, none⟩) (v := .int .i32 x.r) (by (repeat (first | rw [World.cell?_drew] | rw [World.cell?_alloc_past _ _ _ (by first | (simp; done) | (simp; omega))])); rw [World.cell?_alloc_at _ _ _ _ (by simp)]; rfl)
         have x2 := Kep.all g1 (a := ⟨w.heap.size, 2, none⟩) (v := .int .i32 x.ax) (by (repeat (first | rw [World.cell?_drew] | rw [World.cell?_alloc_past _ _ _ (by first | (simp; done) | (simp; omega))])); rw [World.cell?_alloc_at _ _ _ _ (by simp)]; rfl)
         have x3 := Kep.all g1 (a := ⟨w.heap.size, 3, none⟩) (v := .int .i32 x.ay) (by (repeat (first | rw [World.cell?_drew] | rw [World.cell?_alloc_past _ _ _ (by first | (simp; done) | (simp; omega))])); rw [World.cell?_alloc_at _ _ _ _ (by simp)]; rfl)
         have x4 := Kep.all g1 (a := ⟨w.heap.size, 4, none⟩) (v := .int .i32 x.m) (by (repeat (first | rw [World.cell?_drew] | rw [World.cell?_alloc_past _ _ _ (by first | (simp; done) | (simp; omega))])); rw [World.cell?_alloc_at _ _ _ _ (by simp)]; rfl)
         have x5 := Kep.all g1 (a := ⟨w.heap.size, 5, none⟩) (v := .int .i32 x.o) (by (repeat (first | rw [World.cell?_drew] | rw [World.cell?_alloc_past _ _ _ (by first | (simp; done) | (simp; omega))])); rw [World.cell?_alloc_at _ _ _ _ (by simp)]; rfl)
         have x6 := Kep.all g1 (a := ⟨w.heap.size, 6, none⟩) (v := .int .i32 x.px) (by (repeat (first | rw [World.cell?_drew] | rw [World.cell?_alloc_past _ _ _ (by first | (simp; done) | (simp; omega))])); rw [World.cell?_alloc_at _ _ _ _ (by simp)]; rfl)
         have x7 := Kep.all g1 (a := ⟨w.heap.size, 7, none⟩) (v := .int .i32 x.py) (by (repeat (first | rw [World.cell?_drew] | rw [World.cell?_alloc_past _ _ _ (by first | (simp; done) | (simp; omega))])); rw [World.cell?_alloc_at _ _ _ _ (by simp)]; rfl)
         have x8 := Kep.all g1 (a := ⟨w.heap.size, 8, none⟩) (v := .int .i32 x.vx) (by (repeat (first | rw [World.cell?_drew] | rw [World.cell?_alloc_past _ _ _ (by first | (simp; done) | (simp; omega))])); rw [World.cell?_alloc_at _ _ _ _ (by simp)]; rfl)
         have x9 := Kep.all g1 (a := ⟨w.heap.size, 9, none⟩) (v := .int .i32 x.vy) (by (repeat (first | rw [World.cell?_drew] | rw [World.cell?_alloc_past _ _ _ (by first | (simp; done) | (simp; omega))])); rw [World.cell?_alloc_at _ _ _ _ (by simp)]; rfl)
         have y0 := Kep.all g1 (a := ⟨w.heap.size + 1, 0, none⟩) (v := .int .u32 y.k) (by (repeat (first | rw [World.cell?_drew] | rw [World.cell?_alloc_past _ _ _ (by first | (simp; done) | (simp; omega))])); rw [World.cell?_alloc_at _ _ _ _ (by simp)]; rfl)
         have y1 := Kep.all g1 (a := ⟨w.heap.size + 1, 1, none⟩) (v := .int .i32 y.r) (by (repeat (first | rw [World.cell?_drew] | rw [World.cell?_alloc_past _ _ _ (by first | (simp; done) | (simp; omega))])); rw [World.cell?_alloc_at _ _ _ _ (by simp)]; rfl)
         have y2 := Kep.all g1 (a := ⟨w.heap.size + 1, 2, none⟩) (v := .int .i32 y.ax) (by (repeat (first | rw [World.cell?_drew] | rw [World.cell?_alloc_past _ _ _ (by first | (simp; done) | (simp; omega))])); rw [World.cell?_alloc_at _ _ _ _ (by simp)]; rfl)
         have y3 := Kep.all g1 (a := ⟨w.heap.size + 1, 3, none⟩) (v := .int .i32 y.ay) (by (repeat (first | rw [World.cell?_drew] | rw [World.cell?_alloc_past _ _ _ (by first | (simp; done) | (simp; omega))])); rw [World.cell?_alloc_at _ _ _ _ (by simp)]; rfl)
         have y4 := Kep.all g1 (a := ⟨w.heap.size + 1, 4, none⟩) (v := .int .i32 y.m) (by (repeat (first | rw [World.cell?_drew] | rw [World.cell?_alloc_past _ _ _ (by first | (simp; done) | (simp; omega))])); rw [World.cell?_alloc_at _ _ _ _ (by simp)]; rfl)
         have y5 := Kep.all g1 (a := ⟨w.heap.size + 1, 5, none⟩) (v := .int .i32 y.o) (by (repeat (first | rw [World.cell?_drew] | rw [World.cell?_alloc_past _ _ _ (by first | (simp; done) | (simp; omega))])); rw [World.cell?_alloc_at _ _ _ _ (by simp)]; rfl)
         have y6 := Kep.all g1 (a := ⟨w.heap.size + 1, 6, none⟩) (v := .int .i32 y.px) (by (repeat (first | rw [World.cell?_drew] | rw [World.cell?_alloc_past _ _ _ (by first | (simp; done) | (simp; omega))])); rw [World.cell?_alloc_at _ _ _ _ (by simp)]; rfl)
         have y7 := Kep.all g1 (a := ⟨w.heap.size + 1, 7, none⟩) (v := .int .i32 y.py) (by (repeat (first | rw [World.cell?_drew] | rw [World.cell?_alloc_past _ _ _ (by first | (simp; done) | (simp; omega))])); rw [World.cell?_alloc_at _ _ _ _ (by simp)]; rfl)
         have y8 := Kep.all g1 (a := ⟨w.heap.size + 1, 8, none⟩) (v := .int .i32 y.vx) (by (repeat (first | rw [World.cell?_drew] | rw [World.cell?_alloc_past _ _ _ (by first | (simp; done) | (simp; omega))])); rw [World.cell?_alloc_at _ _ _ _ (by simp)]; rfl)
         have y9 := Kep.all g1 (a := ⟨w.heap.size + 1, 9, none⟩) (v := .int .i32 y.vy) (by (repeat (first | rw [World.cell?_drew] | rw [World.cell?_alloc_past _ _ _ (by first | (simp; done) | (simp; omega))])); rw [World.cell?_alloc_at _ _ _ _ (by simp)]; rfl)
         have gg := kep_next (kep_more (kep_more (Kep.refl _ _) _) _) g1
         have zx_w1 : w.heap.size < w1.heap.size := World.block_lt_of_cell? _ _ x0
         have zy_w1 : w.heap.size + 1 < w1.heap.size := World.block_lt_of_cell? _ _ y0)
      | ((with_reducible refine (RR.out _).mono ?_); rintro e w2 ⟨rfl, g2⟩
         replace x0 := Kep.all g2 (a := ⟨w.heap.size, 0, none⟩) (v := .int .u32 x.k) x0
         replace x1 := Kep.all g2 (a := ⟨w.heap.size, 1, none⟩) (v := .int .i32 x.r) x1
         replace x2 := Kep.all g2 (a := ⟨w.heap.size, 2, none⟩) (v := .int .i32 x.ax) x2
         replace x3 := Kep.all g2 (a := ⟨w.heap.size, 3, none⟩) (v := .int .i32 x.ay) x3
         replace x4 := Kep.all g2 (a := ⟨w.heap.size, 4, none⟩) (v := .int .i32 x.m) x4
         replace x5 := Kep.all g2 (a := ⟨w.heap.size, 5, none⟩) (v := .int .i32 x.o) x5
         replace x6 := Kep.all g2 (a := ⟨w.heap.size, 6, none⟩) (v := .int .i32 x.px) x6
         replace x7 := Kep.all g2 (a := ⟨w.heap.size, 7, none⟩) (v := .int .i32 x.py) x7
         replace x8 := Kep.all g2 (a := ⟨w.heap.size, 8, none⟩) (v := .int .i32 x.vx) x8
         replace x9 := Kep.all g2 (a := ⟨w.heap.size, 9, none⟩) (v := .int .i32 x.vy) x9
         replace y0 := Kep.all g2 (a := ⟨w.heap.size + 1, 0, none⟩) (v := .int .u32 y.k) y0
         replace y1 := Kep.all g2 (a := ⟨w.heap.size + 1, 1, none⟩) (v := .int .i32 y.r) y1
         replace y2 := Kep.all g2 (a := ⟨w.heap.size + 1, 2, none⟩) (v := .int .i32 y.ax) y2
         replace y3 := Kep.all g2 (a := ⟨w.heap.size + 1, 3, none⟩) (v := .int .i32 y.ay) y3
         replace y4 := Kep.all g2 (a := ⟨w.heap.size + 1, 4, none⟩) (v := .int .i32 y.m) y4
         replace y5 := Kep.all g2 (a := ⟨w.heap.size + 1, 5, none⟩) (v := .int .i32 y.o) y5
         replace y6 := Kep.all g2 (a := ⟨w.heap.size + 1, 6, none⟩) (v := .int .i32 y.px) y6
         replace y7 := Kep.all g2 (a := ⟨w.heap.size + 1, 7, none⟩) (v := .int .i32 y.py) y7
         replace y8 := Kep.all g2 (a := ⟨w.heap.size + 1, 8, none⟩) (v := .int .i32 y.vx) y8
         replace y9 := Kep.all g2 (a := ⟨w.heap.size + 1, 9, none⟩) (v := .int .i32 y.vy) y9
         replace gg := kep_next gg g2
         have zx_w2 : w.heap.size < w2.heap.size := World.block_lt_of_cell? _ _ x0
         have zy_w2 : w.heap.size + 1 < w2.heap.size := World.block_lt_of_cell? _ _ y0)
      | ((with_reducible refine (C1.out _).mono ?_); rintro e w3 ⟨rfl, g3⟩
         replace x0 := Kep.all g3 (a := ⟨w.heap.size, 0, none⟩) (v := .int .u32 x.k) x0
         replace x1 := Kep.all g3 (a := ⟨w.heap.size, 1, none⟩) (v := .int .i32 x.r) x1
         replace x2 := Kep.all g3 (a := ⟨w.heap.size, 2, none⟩) (v := .int .i32 x.ax) x2
         replace x3 := Kep.all g3 (a := ⟨w.heap.size, 3, none⟩) (v := .int .i32 x.ay) x3
         replace x4 := Kep.all g3 (a := ⟨w.heap.size, 4, none⟩) (v := .int .i32 x.m) x4
         replace x5 := Kep.all g3 (a := ⟨w.heap.size, 5, none⟩) (v := .int .i32 x.o) x5
         replace x6 := Kep.all g3 (a := ⟨w.heap.size, 6, none⟩) (v := .int .i32 x.px) x6
         replace x7 := Kep.all g3 (a := ⟨w.heap.size, 7, none⟩) (v := .int .i32 x.py) x7
         replace x8 := Kep.all g3 (a := ⟨w.heap.size, 8, none⟩) (v := .int .i32 x.vx) x8
         replace x9 := Kep.all g3 (a := ⟨w.heap.size, 9, none⟩) (v := .int .i32 x.vy) x9
         replace y0 := Kep.all g3 (a := ⟨w.heap.size + 1, 0, none⟩) (v := .int .u32 y.k) y0
         replace y1 := Kep.all g3 (a := ⟨w.heap.size + 1, 1, none⟩) (v := .int .i32 y.r) y1
         replace y2 := Kep.all g3 (a := ⟨w.heap.size + 1, 2, none⟩) (v := .int .i32 y.ax) y2
         replace y3 := Kep.all g3 (a := ⟨w.heap.size + 1, 3, none⟩) (v := .int .i32 y.ay) y3
         replace y4 := Kep.all g3 (a := ⟨w.heap.size + 1, 4, none⟩) (v := .int .i32 y.m) y4
         replace y5 := Kep.all g3 (a := ⟨w.heap.size + 1, 5, none⟩) (v := .int .i32 y.o) y5
         replace y6 := Kep.all g3 (a := ⟨w.heap.size + 1, 6, none⟩) (v := .int .i32 y.px) y6
         replace y7 := Kep.all g3 (a := ⟨w.heap.size + 1, 7, none⟩) (v := .int .i32 y.py) y7
         replace y8 := Kep.all g3 (a := ⟨w.heap.size + 1, 8, none⟩) (v := .int .i32 y.vx) y8
         replace y9 := Kep.all g3 (a := ⟨w.heap.size + 1, 9, none⟩) (v := .int .i32 y.vy) y9
         replace gg := kep_next gg g3
         have zx_w3 : w.heap.size < w3.heap.size := World.block_lt_of_cell? _ _ x0
         have zy_w3 : w.heap.size + 1 < w3.heap.size := World.block_lt_of_cell? _ _ y0)
      | ((with_reducible refine (C3.out _).mono ?_); rintro e w4 ⟨rfl, g4⟩
         replace x0 := Kep.all g4 (a := ⟨w.heap.size, 0, none⟩) (v := .int .u32 x.k) (Kep.all (kep_more (Kep.refl _ _) _) x0)
         replace x1 := Kep.all g4 (a := ⟨w.heap.size, 1, none⟩) (v := .int .i32 x.r) (Kep.all (kep_more (Kep.refl _ _) _) x1)
         replace x2 := Kep.all g4 (a := ⟨w.heap.size, 2, none⟩) (v := .int .i32 x.ax) (Kep.all (kep_more (Kep.refl _ _) _) x2)
         replace x3 := Kep.all g4 (a := ⟨w.heap.size, 3, none⟩) (v := .int .i32 x.ay) (Kep.all (kep_more (Kep.refl _ _) _) x3)
         replace x4 := Kep.all g4 (a := ⟨w.heap.size, 4, none⟩) (v := .int .i32 x.m) (Kep.all (kep_more (Kep.refl _ _) _) x4)
         replace x5 := Kep.all g4 (a := ⟨w.heap.size, 5, none⟩) (v := .int .i32 x.o) (Kep.all (kep_more (Kep.refl _ _) _) x5)
         replace x6 := Kep.all g4 (a := ⟨w.heap.size, 6, none⟩) (v := .int .i32 x.px) (Kep.all (kep_more (Kep.refl _ _) _) x6)
         replace x7 := Kep.all g4 (a := ⟨w.heap.size, 7, none⟩) (v := .int .i32 x.py) (Kep.all (kep_more (Kep.refl _ _) _) x7)
         replace x8 := Kep.all g4 (a := ⟨w.heap.size, 8, none⟩) (v := .int .i32 x.vx) (Kep.all (kep_more (Kep.refl _ _) _) x8)
         replace x9 := Kep.all g4 (a := ⟨w.heap.size, 9, none⟩) (v := .int .i32 x.vy) (Kep.all (kep_more (Kep.refl _ _) _) x9)
         replace y0 := Kep.all g4 (a := ⟨w.heap.size + 1, 0, none⟩) (v := .int .u32 y.k) (Kep.all (kep_more (Kep.refl _ _) _) y0)
         replace y1 := Kep.all g4 (a := ⟨w.heap.size + 1, 1, none⟩) (v := .int .i32 y.r) (Kep.all (kep_more (Kep.refl _ _) _) y1)
         replace y2 := Kep.all g4 (a := ⟨w.heap.size + 1, 2, none⟩) (v := .int .i32 y.ax) (Kep.all (kep_more (Kep.refl _ _) _) y2)
         replace y3 := Kep.all g4 (a := ⟨w.heap.size + 1, 3, none⟩) (v := .int .i32 y.ay) (Kep.all (kep_more (Kep.refl _ _) _) y3)
         replace y4 := Kep.all g4 (a := ⟨w.heap.size + 1, 4, none⟩) (v := .int .i32 y.m) (Kep.all (kep_more (Kep.refl _ _) _) y4)
         replace y5 := Kep.all g4 (a := ⟨w.heap.size + 1, 5, none⟩) (v := .int .i32 y.o) (Kep.all (kep_more (Kep.refl _ _) _) y5)
         replace y6 := Kep.all g4 (a := ⟨w.heap.size + 1, 6, none⟩) (v := .int .i32 y.px) (Kep.all (kep_more (Kep.refl _ _) _) y6)
         replace y7 := Kep.all g4 (a := ⟨w.heap.size + 1, 7, none⟩) (v := .int .i32 y.py) (Kep.all (kep_more (Kep.refl _ _) _) y7)
         replace y8 := Kep.all g4 (a := ⟨w.heap.size + 1, 8, none⟩) (v := .int .i32 y.vx) (Kep.all (kep_more (Kep.refl _ _) _) y8)
         replace y9 := Kep.all g4 (a := ⟨w.heap.size + 1, 9, none⟩) (v := .int .i32 y.vy) (Kep.all (kep_more (Kep.refl _ _) _) y9)
         have c0 := Kep.all g4 (a := ⟨w3.heap.size, 0, none⟩) (v := .int .u32 0) (by (repeat (first | rw [World.cell?_drew] | rw [World.cell?_alloc_past _ _ _ (by first | (simp; done) | (simp; omega))])); rw [World.cell?_alloc_at _ _ _ _ (by simp)]; rfl)
         have c1 := Kep.all g4 (a := ⟨w3.heap.size, 1, none⟩) (v := .int .u32 0) (by (repeat (first | rw [World.cell?_drew] | rw [World.cell?_alloc_past _ _ _ (by first | (simp; done) | (simp; omega))])); rw [World.cell?_alloc_at _ _ _ _ (by simp)]; rfl)
         have c2 := Kep.all g4 (a := ⟨w3.heap.size, 2, none⟩) (v := .int .i32 0) (by (repeat (first | rw [World.cell?_drew] | rw [World.cell?_alloc_past _ _ _ (by first | (simp; done) | (simp; omega))])); rw [World.cell?_alloc_at _ _ _ _ (by simp)]; rfl)
         have c3 := Kep.all g4 (a := ⟨w3.heap.size, 3, none⟩) (v := .int .i32 0) (by (repeat (first | rw [World.cell?_drew] | rw [World.cell?_alloc_past _ _ _ (by first | (simp; done) | (simp; omega))])); rw [World.cell?_alloc_at _ _ _ _ (by simp)]; rfl)
         have c4 := Kep.all g4 (a := ⟨w3.heap.size, 4, none⟩) (v := .int .i32 0) (by (repeat (first | rw [World.cell?_drew] | rw [World.cell?_alloc_past _ _ _ (by first | (simp; done) | (simp; omega))])); rw [World.cell?_alloc_at _ _ _ _ (by simp)]; rfl)
         replace gg := kep_next (kep_more gg _) g4
         have zx_w4 : w.heap.size < w4.heap.size := World.block_lt_of_cell? _ _ x0
         have zy_w4 : w.heap.size + 1 < w4.heap.size := World.block_lt_of_cell? _ _ y0
         have zc_w4 : w3.heap.size < w4.heap.size := World.block_lt_of_cell? _ _ c0))
    go_ret
    exact ⟨rfl, gg⟩
  · have hv : conV (lowB x y) (higB x y) = conC (lowB x y) (higB x y) := by unfold conV; rw [hz]; rfl
    have hcl := hti.1 hz
    have hbx : (x.px - exC x ≤ y.px + exC y ∧ y.px - exC y ≤ x.px + exC x) ∧ (x.py - eyC x ≤ y.py + eyC y ∧ y.py - eyC y ≤ x.py + eyC x) := by
      have h := tch_box ho.1 ho.2 hz
      unfold lowB higB at h
      by_cases c : y.k < x.k
      · rw [if_pos c, if_pos c] at h; exact ⟨⟨h.1.2, h.1.1⟩, ⟨h.2.2, h.2.1⟩⟩
      · rw [if_neg c, if_neg c] at h; exact h
    have B1 := Lib.hid (kbo hx)
    have B2 := Lib.hid (kbo hy)
    have B3 : Hid (KBv (x.px - exC x) (x.py - eyC x) (x.px + exC x) (x.py + eyC x) (y.px - exC y) (y.py - eyC y) (y.px + exC y) (y.py + eyC y) true) := Lib.hid (fun w => kep_calls (rov _ _ _ _ _ _ _ _ _ (by
      have l1 := okC_lim hx
      have l2 := okC_lim hy
      unfold ovlB
      unfold exC eyC at *
      simp only [decide_eq_true_eq]
      omega) w))
    rw [hv, hz] at C1
    obtain ⟨v, hvv⟩ : ∃ v, v = conC (lowB x y) (higB x y) := ⟨_, rfl⟩
    obtain ⟨g9, hg⟩ : ∃ g, g = gapC (lowB x y) (higB x y) := ⟨_, rfl⟩
    rw [← hvv] at C1
    rw [← hg] at C3
    have e1 : v.dp = csm x y - cln (lowB x y) (higB x y) := by rw [hvv, ← hs]; rfl
    have e2 : g9 = cln (lowB x y) (higB x y) - csm x y := by rw [hg, ← hs]; rfl
    have e3 : v.lo < v.hi := by rw [hvv]; exact hlt
    obtain ⟨v0, v1, v2, v3, v4⟩ := v
    dsimp only at e1 e3
    obtain ⟨S, hS⟩ : ∃ S, S = csm x y := ⟨_, rfl⟩
    have hS2 : x.r + y.r = S := by rw [hS]; rfl
    rw [← hS] at e1 e2 hsb
    rw [hs, ← hS] at hcl
    have q1 : decide (1 ≤ v4) = true := decide_eq_true (by omega)
    have q2 : decide (v4 ≤ S) = true := decide_eq_true (by omega)
    have q3 : decide (v0 < v1) = true := decide_eq_true e3
    have l1 := (okC_lim hx).1
    have l2 := (okC_lim hy).1
    have w1 : IntKind.i32.wrap (x.r + y.r) = S := by rw [IntKind.wrap_i32]; omega
    have w2 : IntKind.i64.wrap v4 = v4 := by rw [IntKind.wrap_i64]; omega
    obtain ⟨g8, hg8⟩ : ∃ g, g = -g9 := ⟨_, rfl⟩
    have w3 : IntKind.i64.wrap (-g9) = v4 := by rw [IntKind.wrap_i64]; omega
    have w4 : wrap64 (-g9) = v4 := by unfold wrap64; omega
    have q4 : (v4 == v4) = true := by simp
    replace C1 : Hid (∀ w, Calls Try.prog 10 #[.agg #[.int .u32 x.k, .int .i32 x.r, .int .i32 x.ax, .int .i32 x.ay, .int .i32 x.m, .int .i32 x.o, .int .i32 x.px, .int .i32 x.py, .int .i32 x.vx, .int .i32 x.vy], .agg #[.int .u32 y.k, .int .i32 y.r, .int .i32 y.ax, .int .i32 y.ay, .int .i32 y.m, .int .i32 y.o, .int .i32 y.px, .int .i32 y.py, .int .i32 y.vx, .int .i32 y.vy]] w fun e w' => e = .returned (.tuple #[.agg #[.int .u32 v0, .int .u32 v1, .int .i32 v2, .int .i32 v3, .int .i32 v4], .bool true]) ∧ Kep w.heap.size w w') := Lib.hid C1
    replace C3 := Lib.hid C3
    clear hr hx hy hk ho hlt hs hti hnb hsb hz hv hg hvv hcl hbx e1 e2 e3 hS hS2 l1 l2 hg8
    generalize x.px - exC x = xa at *
    generalize x.py - eyC x = ya at *
    generalize x.px + exC x = za at *
    generalize x.py + eyC x = ta at *
    generalize y.px - exC y = xb at *
    generalize y.py - eyC y = yb at *
    generalize y.px + exC y = zb at *
    generalize y.py + eyC y = tb at *
    go_enter Try.func4, Try.ntmps4
    go_wp2_with (first
      | ((with_reducible refine (AW.out _).mono ?_); rintro e w1 ⟨rfl, g1⟩
         have x0 := Kep.all g1 (a := ⟨w.heap.size, 0, none⟩) (v := .int .u32 x.k) (by (repeat (first | rw [World.cell?_drew] | rw [World.cell?_alloc_past _ _ _ (by first | (simp; done) | (simp; omega))])); rw [World.cell?_alloc_at _ _ _ _ (by simp)]; rfl)
         have x1 := Kep.all g1 (a := ⟨w.heap.size, 1, none⟩) (v := .int .i32 x.r) (by (repeat (first | rw [World.cell?_drew] | rw [World.cell?_alloc_past _ _ _ (by first | (simp; done) | (simp; omega))])); rw [World.cell?_alloc_at _ _ _ _ (by simp)]; rfl)
         have x2 := Kep.all g1 (a := ⟨w.heap.size, 2, none⟩) (v := .int .i32 x.ax) (by (repeat (first | rw [World.cell?_drew] | rw [World.cell?_alloc_past _ _ _ (by first | (simp; done) | (simp; omega))])); rw [World.cell?_alloc_at _ _ _ _ (by simp)]; rfl)
         have x3 := Kep.all g1 (a := ⟨w.heap.size, 3, none⟩) (v := .int .i32 x.ay) (by (repeat (first | rw [World.cell?_drew] | rw [World.cell?_alloc_past _ _ _ (by first | (simp; done) | (simp; omega))])); rw [World.cell?_alloc_at _ _ _ _ (by simp)]; rfl)
         have x4 := Kep.all g1 (a := ⟨w.heap.size, 4, none⟩) (v := .int .i32 x.m) (by (repeat (first | rw [World.cell?_drew] | rw [World.cell?_alloc_past _ _ _ (by first | (simp; done) | (simp; omega))])); rw [World.cell?_alloc_at _ _ _ _ (by simp)]; rfl)
         have x5 := Kep.all g1 (a := ⟨w.heap.size, 5, none⟩) (v := .int .i32 x.o) (by (repeat (first | rw [World.cell?_drew] | rw [World.cell?_alloc_past _ _ _ (by first | (simp; done) | (simp; omega))])); rw [World.cell?_alloc_at _ _ _ _ (by simp)]; rfl)
         have x6 := Kep.all g1 (a := ⟨w.heap.size, 6, none⟩) (v := .int .i32 x.px) (by (repeat (first | rw [World.cell?_drew] | rw [World.cell?_alloc_past _ _ _ (by first | (simp; done) | (simp; omega))])); rw [World.cell?_alloc_at _ _ _ _ (by simp)]; rfl)
         have x7 := Kep.all g1 (a := ⟨w.heap.size, 7, none⟩) (v := .int .i32 x.py) (by (repeat (first | rw [World.cell?_drew] | rw [World.cell?_alloc_past _ _ _ (by first | (simp; done) | (simp; omega))])); rw [World.cell?_alloc_at _ _ _ _ (by simp)]; rfl)
         have x8 := Kep.all g1 (a := ⟨w.heap.size, 8, none⟩) (v := .int .i32 x.vx) (by (repeat (first | rw [World.cell?_drew] | rw [World.cell?_alloc_past _ _ _ (by first | (simp; done) | (simp; omega))])); rw [World.cell?_alloc_at _ _ _ _ (by simp)]; rfl)
         have x9 := Kep.all g1 (a := ⟨w.heap.size, 9, none⟩) (v := .int .i32 x.vy) (by (repeat (first | rw [World.cell?_drew] | rw [World.cell?_alloc_past _ _ _ (by first | (simp; done) | (simp; omega))])); rw [World.cell?_alloc_at _ _ _ _ (by simp)]; rfl)
         have y0 := Kep.all g1 (a := ⟨w.heap.size + 1, 0, none⟩) (v := .int .u32 y.k) (by (repeat (first | rw [World.cell?_drew] | rw [World.cell?_alloc_past _ _ _ (by first | (simp; done) | (simp; omega))])); rw [World.cell?_alloc_at _ _ _ _ (by simp)]; rfl)
         have y1 := Kep.all g1 (a := ⟨w.heap.size + 1, 1, none⟩) (v := .int .i32 y.r) (by (repeat (first | rw [World.cell?_drew] | rw [World.cell?_alloc_past _ _ _ (by first | (simp; done) | (simp; omega))])); rw [World.cell?_alloc_at _ _ _ _ (by simp)]; rfl)
         have y2 := Kep.all g1 (a := ⟨w.heap.size + 1, 2, none⟩) (v := .int .i32 y.ax) (by (repeat (first | rw [World.cell?_drew] | rw [World.cell?_alloc_past _ _ _ (by first | (simp; done) | (simp; omega))])); rw [World.cell?_alloc_at _ _ _ _ (by simp)]; rfl)
         have y3 := Kep.all g1 (a := ⟨w.heap.size + 1, 3, none⟩) (v := .int .i32 y.ay) (by (repeat (first | rw [World.cell?_drew] | rw [World.cell?_alloc_past _ _ _ (by first | (simp; done) | (simp; omega))])); rw [World.cell?_alloc_at _ _ _ _ (by simp)]; rfl)
         have y4 := Kep.all g1 (a := ⟨w.heap.size + 1, 4, none⟩) (v := .int .i32 y.m) (by (repeat (first | rw [World.cell?_drew] | rw [World.cell?_alloc_past _ _ _ (by first | (simp; done) | (simp; omega))])); rw [World.cell?_alloc_at _ _ _ _ (by simp)]; rfl)
         have y5 := Kep.all g1 (a := ⟨w.heap.size + 1, 5, none⟩) (v := .int .i32 y.o) (by (repeat (first | rw [World.cell?_drew] | rw [World.cell?_alloc_past _ _ _ (by first | (simp; done) | (simp; omega))])); rw [World.cell?_alloc_at _ _ _ _ (by simp)]; rfl)
         have y6 := Kep.all g1 (a := ⟨w.heap.size + 1, 6, none⟩) (v := .int .i32 y.px) (by (repeat (first | rw [World.cell?_drew] | rw [World.cell?_alloc_past _ _ _ (by first | (simp; done) | (simp; omega))])); rw [World.cell?_alloc_at _ _ _ _ (by simp)]; rfl)
         have y7 := Kep.all g1 (a := ⟨w.heap.size + 1, 7, none⟩) (v := .int .i32 y.py) (by (repeat (first | rw [World.cell?_drew] | rw [World.cell?_alloc_past _ _ _ (by first | (simp; done) | (simp; omega))])); rw [World.cell?_alloc_at _ _ _ _ (by simp)]; rfl)
         have y8 := Kep.all g1 (a := ⟨w.heap.size + 1, 8, none⟩) (v := .int .i32 y.vx) (by (repeat (first | rw [World.cell?_drew] | rw [World.cell?_alloc_past _ _ _ (by first | (simp; done) | (simp; omega))])); rw [World.cell?_alloc_at _ _ _ _ (by simp)]; rfl)
         have y9 := Kep.all g1 (a := ⟨w.heap.size + 1, 9, none⟩) (v := .int .i32 y.vy) (by (repeat (first | rw [World.cell?_drew] | rw [World.cell?_alloc_past _ _ _ (by first | (simp; done) | (simp; omega))])); rw [World.cell?_alloc_at _ _ _ _ (by simp)]; rfl)
         have gg := kep_next (kep_more (kep_more (Kep.refl _ _) _) _) g1
         have zx_w1 : w.heap.size < w1.heap.size := World.block_lt_of_cell? _ _ x0
         have zy_w1 : w.heap.size + 1 < w1.heap.size := World.block_lt_of_cell? _ _ y0)
      | ((with_reducible refine (RR.out _).mono ?_); rintro e w2 ⟨rfl, g2⟩
         replace x0 := Kep.all g2 (a := ⟨w.heap.size, 0, none⟩) (v := .int .u32 x.k) x0
         replace x1 := Kep.all g2 (a := ⟨w.heap.size, 1, none⟩) (v := .int .i32 x.r) x1
         replace x2 := Kep.all g2 (a := ⟨w.heap.size, 2, none⟩) (v := .int .i32 x.ax) x2
         replace x3 := Kep.all g2 (a := ⟨w.heap.size, 3, none⟩) (v := .int .i32 x.ay) x3
         replace x4 := Kep.all g2 (a := ⟨w.heap.size, 4, none⟩) (v := .int .i32 x.m) x4
         replace x5 := Kep.all g2 (a := ⟨w.heap.size, 5, none⟩) (v := .int .i32 x.o) x5
         replace x6 := Kep.all g2 (a := ⟨w.heap.size, 6, none⟩) (v := .int .i32 x.px) x6
         replace x7 := Kep.all g2 (a := ⟨w.heap.size, 7, none⟩) (v := .int .i32 x.py) x7
         replace x8 := Kep.all g2 (a := ⟨w.heap.size, 8, none⟩) (v := .int .i32 x.vx) x8
         replace x9 := Kep.all g2 (a := ⟨w.heap.size, 9, none⟩) (v := .int .i32 x.vy) x9
         replace y0 := Kep.all g2 (a := ⟨w.heap.size + 1, 0, none⟩) (v := .int .u32 y.k) y0
         replace y1 := Kep.all g2 (a := ⟨w.heap.size + 1, 1, none⟩) (v := .int .i32 y.r) y1
         replace y2 := Kep.all g2 (a := ⟨w.heap.size + 1, 2, none⟩) (v := .int .i32 y.ax) y2
         replace y3 := Kep.all g2 (a := ⟨w.heap.size + 1, 3, none⟩) (v := .int .i32 y.ay) y3
         replace y4 := Kep.all g2 (a := ⟨w.heap.size + 1, 4, none⟩) (v := .int .i32 y.m) y4
         replace y5 := Kep.all g2 (a := ⟨w.heap.size + 1, 5, none⟩) (v := .int .i32 y.o) y5
         replace y6 := Kep.all g2 (a := ⟨w.heap.size + 1, 6, none⟩) (v := .int .i32 y.px) y6
         replace y7 := Kep.all g2 (a := ⟨w.heap.size + 1, 7, none⟩) (v := .int .i32 y.py) y7
         replace y8 := Kep.all g2 (a := ⟨w.heap.size + 1, 8, none⟩) (v := .int .i32 y.vx) y8
         replace y9 := Kep.all g2 (a := ⟨w.heap.size + 1, 9, none⟩) (v := .int .i32 y.vy) y9
         replace gg := kep_next gg g2
         have zx_w2 : w.heap.size < w2.heap.size := World.block_lt_of_cell? _ _ x0
         have zy_w2 : w.heap.size + 1 < w2.heap.size := World.block_lt_of_cell? _ _ y0)
      | ((with_reducible refine (C1.out _).mono ?_); rintro e w3 ⟨rfl, g3⟩
         replace x0 := Kep.all g3 (a := ⟨w.heap.size, 0, none⟩) (v := .int .u32 x.k) x0
         replace x1 := Kep.all g3 (a := ⟨w.heap.size, 1, none⟩) (v := .int .i32 x.r) x1
         replace x2 := Kep.all g3 (a := ⟨w.heap.size, 2, none⟩) (v := .int .i32 x.ax) x2
         replace x3 := Kep.all g3 (a := ⟨w.heap.size, 3, none⟩) (v := .int .i32 x.ay) x3
         replace x4 := Kep.all g3 (a := ⟨w.heap.size, 4, none⟩) (v := .int .i32 x.m) x4
         replace x5 := Kep.all g3 (a := ⟨w.heap.size, 5, none⟩) (v := .int .i32 x.o) x5
         replace x6 := Kep.all g3 (a := ⟨w.heap.size, 6, none⟩) (v := .int .i32 x.px) x6
         replace x7 := Kep.all g3 (a := ⟨w.heap.size, 7, none⟩) (v := .int .i32 x.py) x7
         replace x8 := Kep.all g3 (a := ⟨w.heap.size, 8, none⟩) (v := .int .i32 x.vx) x8
         replace x9 := Kep.all g3 (a := ⟨w.heap.size, 9, none⟩) (v := .int .i32 x.vy) x9
         replace y0 := Kep.all g3 (a := ⟨w.heap.size + 1, 0, none⟩) (v := .int .u32 y.k) y0
         replace y1 := Kep.all g3 (a := ⟨w.heap.size + 1, 1, none⟩) (v := .int .i32 y.r) y1
         replace y2 := Kep.all g3 (a := ⟨w.heap.size + 1, 2, none⟩) (v := .int .i32 y.ax) y2
         replace y3 := Kep.all g3 (a := ⟨w.heap.size + 1, 3, none⟩) (v := .int .i32 y.ay) y3
         replace y4 := Kep.all g3 (a := ⟨w.heap.size + 1, 4, none⟩) (v := .int .i32 y.m) y4
         replace y5 := Kep.all g3 (a := ⟨w.heap.size + 1, 5, none⟩) (v := .int .i32 y.o) y5
         replace y6 := Kep.all g3 (a := ⟨w.heap.size + 1, 6, none⟩) (v := .int .i32 y.px) y6
         replace y7 := Kep.all g3 (a := ⟨w.heap.size + 1, 7, none⟩) (v := .int .i32 y.py) y7
         replace y8 := Kep.all g3 (a := ⟨w.heap.size + 1, 8, none⟩) (v := .int .i32 y.vx) y8
         replace y9 := Kep.all g3 (a := ⟨w.heap.size + 1, 9, none⟩) (v := .int .i32 y.vy) y9
         replace gg := kep_next gg g3
         have zx_w3 : w.heap.size < w3.heap.size := World.block_lt_of_cell? _ _ x0
         have zy_w3 : w.heap.size + 1 < w3.heap.size := World.block_lt_of_cell? _ _ y0)
      | ((with_reducible refine (C3.out _).mono ?_); rintro e w4 ⟨rfl, g4⟩
         replace x0 := Kep.all g4 (a := ⟨w.heap.size, 0, none⟩) (v := .int .u32 x.k) (Kep.all (kep_more (Kep.refl _ _) _) x0)
         replace x1 := Kep.all g4 (a := ⟨w.heap.size, 1, none⟩) (v := .int .i32 x.r) (Kep.all (kep_more (Kep.refl _ _) _) x1)
         replace x2 := Kep.all g4 (a := ⟨w.heap.size, 2, none⟩) (v := .int .i32 x.ax) (Kep.all (kep_more (Kep.refl _ _) _) x2)
         replace x3 := Kep.all g4 (a := ⟨w.heap.size, 3, none⟩) (v := .int .i32 x.ay) (Kep.all (kep_more (Kep.refl _ _) _) x3)
         replace x4 := Kep.all g4 (a := ⟨w.heap.size, 4, none⟩) (v := .int .i32 x.m) (Kep.all (kep_more (Kep.refl _ _) _) x4)
         replace x5 := Kep.all g4 (a := ⟨w.heap.size, 5, none⟩) (v := .int .i32 x.o) (Kep.all (kep_more (Kep.refl _ _) _) x5)
         replace x6 := Kep.all g4 (a := ⟨w.heap.size, 6, none⟩) (v := .int .i32 x.px) (Kep.all (kep_more (Kep.refl _ _) _) x6)
         replace x7 := Kep.all g4 (a := ⟨w.heap.size, 7, none⟩) (v := .int .i32 x.py) (Kep.all (kep_more (Kep.refl _ _) _) x7)
         replace x8 := Kep.all g4 (a := ⟨w.heap.size, 8, none⟩) (v := .int .i32 x.vx) (Kep.all (kep_more (Kep.refl _ _) _) x8)
         replace x9 := Kep.all g4 (a := ⟨w.heap.size, 9, none⟩) (v := .int .i32 x.vy) (Kep.all (kep_more (Kep.refl _ _) _) x9)
         replace y0 := Kep.all g4 (a := ⟨w.heap.size + 1, 0, none⟩) (v := .int .u32 y.k) (Kep.all (kep_more (Kep.refl _ _) _) y0)
         replace y1 := Kep.all g4 (a := ⟨w.heap.size + 1, 1, none⟩) (v := .int .i32 y.r) (Kep.all (kep_more (Kep.refl _ _) _) y1)
         replace y2 := Kep.all g4 (a := ⟨w.heap.size + 1, 2, none⟩) (v := .int .i32 y.ax) (Kep.all (kep_more (Kep.refl _ _) _) y2)
         replace y3 := Kep.all g4 (a := ⟨w.heap.size + 1, 3, none⟩) (v := .int .i32 y.ay) (Kep.all (kep_more (Kep.refl _ _) _) y3)
         replace y4 := Kep.all g4 (a := ⟨w.heap.size + 1, 4, none⟩) (v := .int .i32 y.m) (Kep.all (kep_more (Kep.refl _ _) _) y4)
         replace y5 := Kep.all g4 (a := ⟨w.heap.size + 1, 5, none⟩) (v := .int .i32 y.o) (Kep.all (kep_more (Kep.refl _ _) _) y5)
         replace y6 := Kep.all g4 (a := ⟨w.heap.size + 1, 6, none⟩) (v := .int .i32 y.px) (Kep.all (kep_more (Kep.refl _ _) _) y6)
         replace y7 := Kep.all g4 (a := ⟨w.heap.size + 1, 7, none⟩) (v := .int .i32 y.py) (Kep.all (kep_more (Kep.refl _ _) _) y7)
         replace y8 := Kep.all g4 (a := ⟨w.heap.size + 1, 8, none⟩) (v := .int .i32 y.vx) (Kep.all (kep_more (Kep.refl _ _) _) y8)
         replace y9 := Kep.all g4 (a := ⟨w.heap.size + 1, 9, none⟩) (v := .int .i32 y.vy) (Kep.all (kep_more (Kep.refl _ _) _) y9)
         have c0 := Kep.all g4 (a := ⟨w3.heap.size, 0, none⟩) (v := .int .u32 v0) (by (repeat (first | rw [World.cell?_drew] | rw [World.cell?_alloc_past _ _ _ (by first | (simp; done) | (simp; omega))])); rw [World.cell?_alloc_at _ _ _ _ (by simp)]; rfl)
         have c1 := Kep.all g4 (a := ⟨w3.heap.size, 1, none⟩) (v := .int .u32 v1) (by (repeat (first | rw [World.cell?_drew] | rw [World.cell?_alloc_past _ _ _ (by first | (simp; done) | (simp; omega))])); rw [World.cell?_alloc_at _ _ _ _ (by simp)]; rfl)
         have c2 := Kep.all g4 (a := ⟨w3.heap.size, 2, none⟩) (v := .int .i32 v2) (by (repeat (first | rw [World.cell?_drew] | rw [World.cell?_alloc_past _ _ _ (by first | (simp; done) | (simp; omega))])); rw [World.cell?_alloc_at _ _ _ _ (by simp)]; rfl)
         have c3 := Kep.all g4 (a := ⟨w3.heap.size, 3, none⟩) (v := .int .i32 v3) (by (repeat (first | rw [World.cell?_drew] | rw [World.cell?_alloc_past _ _ _ (by first | (simp; done) | (simp; omega))])); rw [World.cell?_alloc_at _ _ _ _ (by simp)]; rfl)
         have c4 := Kep.all g4 (a := ⟨w3.heap.size, 4, none⟩) (v := .int .i32 v4) (by (repeat (first | rw [World.cell?_drew] | rw [World.cell?_alloc_past _ _ _ (by first | (simp; done) | (simp; omega))])); rw [World.cell?_alloc_at _ _ _ _ (by simp)]; rfl)
         replace gg := kep_next (kep_more gg _) g4
         have zx_w4 : w.heap.size < w4.heap.size := World.block_lt_of_cell? _ _ x0
         have zy_w4 : w.heap.size + 1 < w4.heap.size := World.block_lt_of_cell? _ _ y0
         have zc_w4 : w3.heap.size < w4.heap.size := World.block_lt_of_cell? _ _ c0))
    refine wp_region_noPanic ?_
    refine wp_region_held_drew (S := (fun w' => w'.cell? ⟨w.heap.size, 0, none⟩ = some (.int .u32 x.k) ∧ w'.cell? ⟨w.heap.size, 1, none⟩ = some (.int .i32 x.r) ∧ w'.cell? ⟨w.heap.size, 2, none⟩ = some (.int .i32 x.ax) ∧ w'.cell? ⟨w.heap.size, 3, none⟩ = some (.int .i32 x.ay) ∧ w'.cell? ⟨w.heap.size, 4, none⟩ = some (.int .i32 x.m) ∧ w'.cell? ⟨w.heap.size, 5, none⟩ = some (.int .i32 x.o) ∧ w'.cell? ⟨w.heap.size, 6, none⟩ = some (.int .i32 x.px) ∧ w'.cell? ⟨w.heap.size, 7, none⟩ = some (.int .i32 x.py) ∧ w'.cell? ⟨w.heap.size, 8, none⟩ = some (.int .i32 x.vx) ∧ w'.cell? ⟨w.heap.size, 9, none⟩ = some (.int .i32 x.vy) ∧ w'.cell? ⟨w.heap.size + 1, 0, none⟩ = some (.int .u32 y.k) ∧ w'.cell? ⟨w.heap.size + 1, 1, none⟩ = some (.int .i32 y.r) ∧ w'.cell? ⟨w.heap.size + 1, 2, none⟩ = some (.int .i32 y.ax) ∧ w'.cell? ⟨w.heap.size + 1, 3, none⟩ = some (.int .i32 y.ay) ∧ w'.cell? ⟨w.heap.size + 1, 4, none⟩ = some (.int .i32 y.m) ∧ w'.cell? ⟨w.heap.size + 1, 5, none⟩ = some (.int .i32 y.o) ∧ w'.cell? ⟨w.heap.size + 1, 6, none⟩ = some (.int .i32 y.px) ∧ w'.cell? ⟨w.heap.size + 1, 7, none⟩ = some (.int .i32 y.py) ∧ w'.cell? ⟨w.heap.size + 1, 8, none⟩ = some (.int .i32 y.vx) ∧ w'.cell? ⟨w.heap.size + 1, 9, none⟩ = some (.int .i32 y.vy) ∧ w'.cell? ⟨w3.heap.size, 0, none⟩ = some (.int .u32 v0) ∧ w'.cell? ⟨w3.heap.size, 1, none⟩ = some (.int .u32 v1) ∧ w'.cell? ⟨w3.heap.size, 2, none⟩ = some (.int .i32 v2) ∧ w'.cell? ⟨w3.heap.size, 3, none⟩ = some (.int .i32 v3) ∧ w'.cell? ⟨w3.heap.size, 4, none⟩ = some (.int .i32 v4) ∧ Kep w.heap.size w w')) (by kernel_rfl) (⟨by rw [World.cell?_drew]; exact x0, by rw [World.cell?_drew]; exact x1, by rw [World.cell?_drew]; exact x2, by rw [World.cell?_drew]; exact x3, by rw [World.cell?_drew]; exact x4, by rw [World.cell?_drew]; exact x5, by rw [World.cell?_drew]; exact x6, by rw [World.cell?_drew]; exact x7, by rw [World.cell?_drew]; exact x8, by rw [World.cell?_drew]; exact x9, by rw [World.cell?_drew]; exact y0, by rw [World.cell?_drew]; exact y1, by rw [World.cell?_drew]; exact y2, by rw [World.cell?_drew]; exact y3, by rw [World.cell?_drew]; exact y4, by rw [World.cell?_drew]; exact y5, by rw [World.cell?_drew]; exact y6, by rw [World.cell?_drew]; exact y7, by rw [World.cell?_drew]; exact y8, by rw [World.cell?_drew]; exact y9, by rw [World.cell?_drew]; exact c0, by rw [World.cell?_drew]; exact c1, by rw [World.cell?_drew]; exact c2, by rw [World.cell?_drew]; exact c3, by rw [World.cell?_drew]; exact c4, kep_drew gg⟩) (fun hH => ?_)
    refine wpAnyH_take (i := 0) (oi := { dst := some 35, op := Op.fieldAddr 32 (Operand.tmp 5) 2, type := _, pos := _, after := _, guard := none }) (v := ?_) rfl (by kernel_rfl) (by kernel_rfl) (by kernel_rfl) (fun _ _ _ h => h) (Or.inl ⟨by rfl, ?_⟩) hH ?_
    rotate_left
    · (intro w hSw; (try dsimp only at hSw); go_simp; (try with_reducible rfl))
    try simp only [Act.put, List.setIfInBounds_toArray, List.set_cons_zero, List.set_cons_succ]
    refine wpAnyH_take (i := 1) (oi := { dst := some 36, op := Op.load 21 (Operand.tmp 35), type := _, pos := _, after := _, guard := none }) (v := ?_) rfl (by kernel_rfl) (by kernel_rfl) (by kernel_rfl) (fun _ _ _ h => h) (Or.inl ⟨by rfl, ?_⟩) hH ?_
    rotate_left
    · (intro w hSw; (try dsimp only at hSw); go_simp; (try with_reducible rfl))
    try simp only [Act.put, List.setIfInBounds_toArray, List.set_cons_zero, List.set_cons_succ]
    refine wpAnyH_take (i := 2) (oi := { dst := some 37, op := Op.binOp BinOp.geq 21 (Operand.tmp 36) (Operand.const (Value.int IntKind.i32 1)) 21, type := _, pos := _, after := _, guard := none }) (v := ?_) rfl (by kernel_rfl) (by kernel_rfl) (by kernel_rfl) (fun _ _ _ h => h) (Or.inl ⟨by rfl, ?_⟩) hH ?_
    rotate_left
    · (intro w hSw; (try dsimp only at hSw); go_simp; (try with_reducible rfl))
    try simp only [Act.put, List.setIfInBounds_toArray, List.set_cons_zero, List.set_cons_succ]
    refine wpAnyH_take (i := 3) (oi := { dst := some 38, op := Op.move (Operand.tmp 37), type := _, pos := _, after := _, guard := none }) (v := ?_) rfl (by kernel_rfl) (by kernel_rfl) (by kernel_rfl) (fun _ _ _ h => h) (Or.inl ⟨by rfl, ?_⟩) hH ?_
    rotate_left
    · (intro w hSw; (try dsimp only at hSw); go_simp; (try with_reducible rfl))
    try simp only [Act.put, List.setIfInBounds_toArray, List.set_cons_zero, List.set_cons_succ]
    refine wpAnyH_take (i := 4) (oi := { dst := some 39, op := Op.fieldAddr 32 (Operand.tmp 5) 2, type := _, pos := _, after := _, guard := some (3, true) }) (v := ?_) rfl (by kernel_rfl) (by kernel_rfl) (by kernel_rfl) (fun _ _ _ h => h) (Or.inl ⟨by rfl, ?_⟩) hH ?_
    rotate_left
    · (intro w hSw; (try dsimp only at hSw); go_simp; (try with_reducible rfl))
    try simp only [Act.put, List.setIfInBounds_toArray, List.set_cons_zero, List.set_cons_succ]
    refine wpAnyH_take (i := 5) (oi := { dst := some 40, op := Op.load 21 (Operand.tmp 39), type := _, pos := _, after := _, guard := some (3, true) }) (v := ?_) rfl (by kernel_rfl) (by kernel_rfl) (by kernel_rfl) (fun _ _ _ h => h) (Or.inl ⟨by rfl, ?_⟩) hH ?_
    rotate_left
    · (intro w hSw; (try dsimp only at hSw); go_simp; (try with_reducible rfl))
    try simp only [Act.put, List.setIfInBounds_toArray, List.set_cons_zero, List.set_cons_succ]
    refine wpAnyH_take (i := 6) (oi := { dst := some 41, op := Op.fieldAddr 26 (Operand.tmp 2) 1, type := _, pos := _, after := _, guard := some (3, true) }) (v := ?_) rfl (by kernel_rfl) (by kernel_rfl) (by kernel_rfl) (fun _ _ _ h => h) (Or.inl ⟨by rfl, ?_⟩) hH ?_
    rotate_left
    · (intro w hSw; (try dsimp only at hSw); go_simp; (try with_reducible rfl))
    try simp only [Act.put, List.setIfInBounds_toArray, List.set_cons_zero, List.set_cons_succ]
    refine wpAnyH_take (i := 7) (oi := { dst := some 42, op := Op.load 21 (Operand.tmp 41), type := _, pos := _, after := _, guard := some (3, true) }) (v := ?_) rfl (by kernel_rfl) (by kernel_rfl) (by kernel_rfl) (fun _ _ _ h => h) (Or.inl ⟨by rfl, ?_⟩) hH ?_
    rotate_left
    · (intro w hSw; (try dsimp only at hSw); go_simp; (try with_reducible rfl))
    try simp only [Act.put, List.setIfInBounds_toArray, List.set_cons_zero, List.set_cons_succ]
    refine wpAnyH_take (i := 8) (oi := { dst := some 43, op := Op.fieldAddr 26 (Operand.tmp 3) 1, type := _, pos := _, after := _, guard := some (3, true) }) (v := ?_) rfl (by kernel_rfl) (by kernel_rfl) (by kernel_rfl) (fun _ _ _ h => h) (Or.inl ⟨by rfl, ?_⟩) hH ?_
    rotate_left
    · (intro w hSw; (try dsimp only at hSw); go_simp; (try with_reducible rfl))
    try simp only [Act.put, List.setIfInBounds_toArray, List.set_cons_zero, List.set_cons_succ]
    refine wpAnyH_take (i := 9) (oi := { dst := some 44, op := Op.load 21 (Operand.tmp 43), type := _, pos := _, after := _, guard := some (3, true) }) (v := ?_) rfl (by kernel_rfl) (by kernel_rfl) (by kernel_rfl) (fun _ _ _ h => h) (Or.inl ⟨by rfl, ?_⟩) hH ?_
    rotate_left
    · (intro w hSw; (try dsimp only at hSw); go_simp; (try with_reducible rfl))
    try simp only [Act.put, List.setIfInBounds_toArray, List.set_cons_zero, List.set_cons_succ]
    refine wpAnyH_take (i := 10) (oi := { dst := some 45, op := Op.binOp BinOp.add 21 (Operand.tmp 42) (Operand.tmp 44) 21, type := _, pos := _, after := _, guard := some (3, true) }) (v := ?_) rfl (by kernel_rfl) (by kernel_rfl) (by kernel_rfl) (fun _ _ _ h => h) (Or.inl ⟨by rfl, ?_⟩) hH ?_
    rotate_left
    · (intro w hSw; (try dsimp only at hSw); go_simp; (try with_reducible rfl))
    try simp only [Act.put, List.setIfInBounds_toArray, List.set_cons_zero, List.set_cons_succ]
    refine wpAnyH_take (i := 11) (oi := { dst := some 46, op := Op.binOp BinOp.leq 21 (Operand.tmp 40) (Operand.tmp 45) 21, type := _, pos := _, after := _, guard := some (3, true) }) (v := ?_) rfl (by kernel_rfl) (by kernel_rfl) (by kernel_rfl) (fun _ _ _ h => h) (Or.inl ⟨by rfl, ?_⟩) hH ?_
    rotate_left
    · (intro w hSw; (try dsimp only at hSw); go_simp; (try with_reducible rfl))
    try simp only [Act.put, List.setIfInBounds_toArray, List.set_cons_zero, List.set_cons_succ]
    refine wpAnyH_take (i := 12) (oi := { dst := some 47, op := Op.pick (Operand.tmp 38) (Operand.tmp 46) (Operand.const (Value.bool false)), type := _, pos := _, after := _, guard := none }) (v := ?_) rfl (by kernel_rfl) (by kernel_rfl) (by kernel_rfl) (fun _ _ _ h => h) (Or.inl ⟨by rfl, ?_⟩) hH ?_
    rotate_left
    · (intro w hSw; (try dsimp only at hSw); go_simp; (try with_reducible rfl))
    try simp only [Act.put, List.setIfInBounds_toArray, List.set_cons_zero, List.set_cons_succ]
    refine wpAnyH_take (i := 13) (oi := { dst := some 48, op := Op.move (Operand.tmp 47), type := _, pos := _, after := _, guard := none }) (v := ?_) rfl (by kernel_rfl) (by kernel_rfl) (by kernel_rfl) (fun _ _ _ h => h) (Or.inl ⟨by rfl, ?_⟩) hH ?_
    rotate_left
    · (intro w hSw; (try dsimp only at hSw); go_simp; (try with_reducible rfl))
    try simp only [Act.put, List.setIfInBounds_toArray, List.set_cons_zero, List.set_cons_succ]
    refine wpAnyH_take (i := 14) (oi := { dst := some 49, op := Op.fieldAddr 32 (Operand.tmp 5) 2, type := _, pos := _, after := _, guard := some (13, true) }) (v := ?_) rfl (by kernel_rfl) (by kernel_rfl) (by kernel_rfl) (fun _ _ _ h => h) (Or.inl ⟨by rfl, ?_⟩) hH ?_
    rotate_left
    · (intro w hSw; (try dsimp only at hSw); go_simp; (try with_reducible rfl))
    try simp only [Act.put, List.setIfInBounds_toArray, List.set_cons_zero, List.set_cons_succ]
    refine wpAnyH_take (i := 15) (oi := { dst := some 50, op := Op.load 21 (Operand.tmp 49), type := _, pos := _, after := _, guard := some (13, true) }) (v := ?_) rfl (by kernel_rfl) (by kernel_rfl) (by kernel_rfl) (fun _ _ _ h => h) (Or.inl ⟨by rfl, ?_⟩) hH ?_
    rotate_left
    · (intro w hSw; (try dsimp only at hSw); go_simp; (try with_reducible rfl))
    try simp only [Act.put, List.setIfInBounds_toArray, List.set_cons_zero, List.set_cons_succ]
    refine wpAnyH_take (i := 16) (oi := { dst := some 51, op := Op.convert 21 2 (Operand.tmp 50), type := _, pos := _, after := _, guard := some (13, true) }) (v := ?_) rfl (by kernel_rfl) (by kernel_rfl) (by kernel_rfl) (fun _ _ _ h => h) (Or.inl ⟨by rfl, ?_⟩) hH ?_
    rotate_left
    · (intro w hSw; (try dsimp only at hSw); go_simp; (try with_reducible rfl))
    try simp only [Act.put, List.setIfInBounds_toArray, List.set_cons_zero, List.set_cons_succ]
    refine wpAnyH_take (i := 17) (oi := { dst := some 52, op := Op.move (Operand.tmp 7), type := _, pos := _, after := _, guard := some (13, true) }) (v := ?_) rfl (by kernel_rfl) (by kernel_rfl) (by kernel_rfl) (fun _ _ _ h => h) (Or.inl ⟨by rfl, ?_⟩) hH ?_
    rotate_left
    · (intro w hSw; (try dsimp only at hSw); go_simp; (try with_reducible rfl))
    try simp only [Act.put, List.setIfInBounds_toArray, List.set_cons_zero, List.set_cons_succ]
    refine wpAnyH_take (i := 18) (oi := { dst := some 53, op := Op.unOp UnOp.neg 2 (Operand.tmp 52), type := _, pos := _, after := _, guard := some (13, true) }) (v := ?_) rfl (by kernel_rfl) (by kernel_rfl) (by kernel_rfl) (fun _ _ _ h => h) (Or.inl ⟨by rfl, ?_⟩) hH ?_
    rotate_left
    · (intro w hSw; (try dsimp only at hSw); go_simp; (try with_reducible rfl))
    try simp only [Act.put, List.setIfInBounds_toArray, List.set_cons_zero, List.set_cons_succ]
    refine wpAnyH_take (i := 19) (oi := { dst := some 54, op := Op.binOp BinOp.eql 2 (Operand.tmp 51) (Operand.tmp 53) 2, type := _, pos := _, after := _, guard := some (13, true) }) (v := ?_) rfl (by kernel_rfl) (by kernel_rfl) (by kernel_rfl) (fun _ _ _ h => h) (Or.inl ⟨by rfl, ?_⟩) hH ?_
    rotate_left
    · (intro w hSw; (try dsimp only at hSw); go_simp; (try with_reducible rfl))
    try simp only [Act.put, List.setIfInBounds_toArray, List.set_cons_zero, List.set_cons_succ]
    refine wpAnyH_take (i := 20) (oi := { dst := some 55, op := Op.pick (Operand.tmp 48) (Operand.tmp 54) (Operand.const (Value.bool false)), type := _, pos := _, after := _, guard := none }) (v := ?_) rfl (by kernel_rfl) (by kernel_rfl) (by kernel_rfl) (fun _ _ _ h => h) (Or.inl ⟨by rfl, ?_⟩) hH ?_
    rotate_left
    · (intro w hSw; (try dsimp only at hSw); go_simp; (try with_reducible rfl))
    try simp only [Act.put, List.setIfInBounds_toArray, List.set_cons_zero, List.set_cons_succ]
    refine wpAnyH_take (i := 21) (oi := { dst := some 56, op := Op.move (Operand.tmp 55), type := _, pos := _, after := _, guard := none }) (v := ?_) rfl (by kernel_rfl) (by kernel_rfl) (by kernel_rfl) (fun _ _ _ h => h) (Or.inl ⟨by rfl, ?_⟩) hH ?_
    rotate_left
    · (intro w hSw; (try dsimp only at hSw); go_simp; (try with_reducible rfl))
    try simp only [Act.put, List.setIfInBounds_toArray, List.set_cons_zero, List.set_cons_succ]
    refine wpAnyH_take (i := 22) (oi := { dst := some 57, op := Op.fieldAddr 32 (Operand.tmp 5) 0, type := _, pos := _, after := _, guard := some (21, true) }) (v := ?_) rfl (by kernel_rfl) (by kernel_rfl) (by kernel_rfl) (fun _ _ _ h => h) (Or.inl ⟨by rfl, ?_⟩) hH ?_
    rotate_left
    · (intro w hSw; (try dsimp only at hSw); go_simp; (try with_reducible rfl))
    try simp only [Act.put, List.setIfInBounds_toArray, List.set_cons_zero, List.set_cons_succ]
    refine wpAnyH_take (i := 23) (oi := { dst := some 58, op := Op.fieldAddr 30 (Operand.tmp 57) 0, type := _, pos := _, after := _, guard := some (21, true) }) (v := ?_) rfl (by kernel_rfl) (by kernel_rfl) (by kernel_rfl) (fun _ _ _ h => h) (Or.inl ⟨by rfl, ?_⟩) hH ?_
    rotate_left
    · (intro w hSw; (try dsimp only at hSw); go_simp; (try with_reducible rfl))
    try simp only [Act.put, List.setIfInBounds_toArray, List.set_cons_zero, List.set_cons_succ]
    refine wpAnyH_take (i := 24) (oi := { dst := some 59, op := Op.load 22 (Operand.tmp 58), type := _, pos := _, after := _, guard := some (21, true) }) (v := ?_) rfl (by kernel_rfl) (by kernel_rfl) (by kernel_rfl) (fun _ _ _ h => h) (Or.inl ⟨by rfl, ?_⟩) hH ?_
    rotate_left
    · (intro w hSw; (try dsimp only at hSw); go_simp; (try with_reducible rfl))
    try simp only [Act.put, List.setIfInBounds_toArray, List.set_cons_zero, List.set_cons_succ]
    refine wpAnyH_take (i := 25) (oi := { dst := some 60, op := Op.fieldAddr 32 (Operand.tmp 5) 0, type := _, pos := _, after := _, guard := some (21, true) }) (v := ?_) rfl (by kernel_rfl) (by kernel_rfl) (by kernel_rfl) (fun _ _ _ h => h) (Or.inl ⟨by rfl, ?_⟩) hH ?_
    rotate_left
    · (intro w hSw; (try dsimp only at hSw); go_simp; (try with_reducible rfl))
    try simp only [Act.put, List.setIfInBounds_toArray, List.set_cons_zero, List.set_cons_succ]
    refine wpAnyH_take (i := 26) (oi := { dst := some 61, op := Op.fieldAddr 30 (Operand.tmp 60) 1, type := _, pos := _, after := _, guard := some (21, true) }) (v := ?_) rfl (by kernel_rfl) (by kernel_rfl) (by kernel_rfl) (fun _ _ _ h => h) (Or.inl ⟨by rfl, ?_⟩) hH ?_
    rotate_left
    · (intro w hSw; (try dsimp only at hSw); go_simp; (try with_reducible rfl))
    try simp only [Act.put, List.setIfInBounds_toArray, List.set_cons_zero, List.set_cons_succ]
    refine wpAnyH_take (i := 27) (oi := { dst := some 62, op := Op.load 22 (Operand.tmp 61), type := _, pos := _, after := _, guard := some (21, true) }) (v := ?_) rfl (by kernel_rfl) (by kernel_rfl) (by kernel_rfl) (fun _ _ _ h => h) (Or.inl ⟨by rfl, ?_⟩) hH ?_
    rotate_left
    · (intro w hSw; (try dsimp only at hSw); go_simp; (try with_reducible rfl))
    try simp only [Act.put, List.setIfInBounds_toArray, List.set_cons_zero, List.set_cons_succ]
    refine wpAnyH_take (i := 28) (oi := { dst := some 63, op := Op.binOp BinOp.lss 22 (Operand.tmp 59) (Operand.tmp 62) 22, type := _, pos := _, after := _, guard := some (21, true) }) (v := ?_) rfl (by kernel_rfl) (by kernel_rfl) (by kernel_rfl) (fun _ _ _ h => h) (Or.inl ⟨by rfl, ?_⟩) hH ?_
    rotate_left
    · (intro w hSw; (try dsimp only at hSw); go_simp; (try with_reducible rfl))
    try simp only [Act.put, List.setIfInBounds_toArray, List.set_cons_zero, List.set_cons_succ]
    refine wpAnyH_take (i := 29) (oi := { dst := some 64, op := Op.pick (Operand.tmp 56) (Operand.tmp 63) (Operand.const (Value.bool false)), type := _, pos := _, after := _, guard := none }) (v := ?_) rfl (by kernel_rfl) (by kernel_rfl) (by kernel_rfl) (fun _ _ _ h => h) (Or.inl ⟨by rfl, ?_⟩) hH ?_
    rotate_left
    · (intro w hSw; (try dsimp only at hSw); go_simp; (try with_reducible rfl))
    try simp only [Act.put, List.setIfInBounds_toArray, List.set_cons_zero, List.set_cons_succ]
    refine wpAnyH_take (i := 30) (oi := { dst := some 65, op := Op.move (Operand.tmp 64), type := _, pos := _, after := _, guard := none }) (v := ?_) rfl (by kernel_rfl) (by kernel_rfl) (by kernel_rfl) (fun _ _ _ h => h) (Or.inl ⟨by rfl, ?_⟩) hH ?_
    rotate_left
    · (intro w hSw; (try dsimp only at hSw); go_simp; (try with_reducible rfl))
    try simp only [Act.put, List.setIfInBounds_toArray, List.set_cons_zero, List.set_cons_succ]
    refine wpAnyH_take (i := 31) (oi := { dst := some 66, op := Op.load 26 (Operand.tmp 2), type := _, pos := _, after := _, guard := some (30, true) }) (v := ?_) rfl (by kernel_rfl) (by kernel_rfl) (by kernel_rfl) (fun _ _ _ h => h) (Or.inl ⟨by rfl, ?_⟩) hH ?_
    rotate_left
    · (intro w hSw; (try dsimp only at hSw); go_simp; (try with_reducible rfl))
    try simp only [Act.put, List.setIfInBounds_toArray, List.set_cons_zero, List.set_cons_succ]
    refine wpAnyH_take (i := 33) (oi := { dst := some 68, op := Op.load 26 (Operand.tmp 3), type := _, pos := _, after := _, guard := some (30, true) }) (v := ?_) rfl (by kernel_rfl) (by kernel_rfl) (by kernel_rfl) (fun _ _ _ h => h) (Or.inl ⟨by rfl, ?_⟩) hH ?_
    rotate_left
    · (intro w hSw; (try dsimp only at hSw); go_simp; (try with_reducible rfl))
    try simp only [Act.put, List.setIfInBounds_toArray, List.set_cons_zero, List.set_cons_succ]
    refine wpAnyH_ready (rs := [32]) (by kernel_rfl) (by simp) ?_
    refine AllReadyH.cons (o := { dst := some 67, op := Op.call { callee := Callee.value (Operand.func 16), args := #[Operand.tmp 66], argTypes := #[26] }, type := _, pos := _, after := _, guard := some (30, true) }) rfl (fun K hK => ?_) AllReadyH.nil
    go_simp
    (with_reducible refine (B1.out _).mono ?_); rintro e v7_32 ⟨rfl, g⟩
    refine hK.out _ _ (by (try dsimp only); (go_split_ands; exact ⟨Kep.all g (by assumption), Kep.all g (by assumption), Kep.all g (by assumption), Kep.all g (by assumption), Kep.all g (by assumption), Kep.all g (by assumption), Kep.all g (by assumption), Kep.all g (by assumption), Kep.all g (by assumption), Kep.all g (by assumption), Kep.all g (by assumption), Kep.all g (by assumption), Kep.all g (by assumption), Kep.all g (by assumption), Kep.all g (by assumption), Kep.all g (by assumption), Kep.all g (by assumption), Kep.all g (by assumption), Kep.all g (by assumption), Kep.all g (by assumption), Kep.all g (by assumption), Kep.all g (by assumption), Kep.all g (by assumption), Kep.all g (by assumption), Kep.all g (by assumption), kep_next (by assumption) g⟩)) (fun hH2 => ?_)
    clear hK K hH; have hH := hH2; clear hH2
    try simp only [Act.put, List.setIfInBounds_toArray, List.set_cons_zero, List.set_cons_succ]
    refine wpAnyH_ready (rs := [34]) (by kernel_rfl) (by simp) ?_
    refine AllReadyH.cons (o := { dst := some 69, op := Op.call { callee := Callee.value (Operand.func 16), args := #[Operand.tmp 68], argTypes := #[26] }, type := _, pos := _, after := _, guard := some (30, true) }) rfl (fun K hK => ?_) AllReadyH.nil
    go_simp
    (with_reducible refine (B2.out _).mono ?_); rintro e v7_34 ⟨rfl, g⟩
    refine hK.out _ _ (by (try dsimp only); (go_split_ands; exact ⟨Kep.all g (by assumption), Kep.all g (by assumption), Kep.all g (by assumption), Kep.all g (by assumption), Kep.all g (by assumption), Kep.all g (by assumption), Kep.all g (by assumption), Kep.all g (by assumption), Kep.all g (by assumption), Kep.all g (by assumption), Kep.all g (by assumption), Kep.all g (by assumption), Kep.all g (by assumption), Kep.all g (by assumption), Kep.all g (by assumption), Kep.all g (by assumption), Kep.all g (by assumption), Kep.all g (by assumption), Kep.all g (by assumption), Kep.all g (by assumption), Kep.all g (by assumption), Kep.all g (by assumption), Kep.all g (by assumption), Kep.all g (by assumption), Kep.all g (by assumption), kep_next (by assumption) g⟩)) (fun hH2 => ?_)
    clear hK K hH; have hH := hH2; clear hH2
    try simp only [Act.put, List.setIfInBounds_toArray, List.set_cons_zero, List.set_cons_succ]
    refine wpAnyH_ready (rs := [35]) (by kernel_rfl) (by simp) ?_
    refine AllReadyH.cons (o := { dst := some 70, op := Op.call { callee := Callee.value (Operand.func 15), args := #[Operand.tmp 67, Operand.tmp 69], argTypes := #[38, 38] }, type := _, pos := _, after := _, guard := some (30, true) }) rfl (fun K hK => ?_) AllReadyH.nil
    go_simp
    (with_reducible refine (B3.out _).mono ?_); rintro e v7_35 ⟨rfl, g⟩
    refine hK.out _ _ (by (try dsimp only); (go_split_ands; exact ⟨Kep.all g (by assumption), Kep.all g (by assumption), Kep.all g (by assumption), Kep.all g (by assumption), Kep.all g (by assumption), Kep.all g (by assumption), Kep.all g (by assumption), Kep.all g (by assumption), Kep.all g (by assumption), Kep.all g (by assumption), Kep.all g (by assumption), Kep.all g (by assumption), Kep.all g (by assumption), Kep.all g (by assumption), Kep.all g (by assumption), Kep.all g (by assumption), Kep.all g (by assumption), Kep.all g (by assumption), Kep.all g (by assumption), Kep.all g (by assumption), Kep.all g (by assumption), Kep.all g (by assumption), Kep.all g (by assumption), Kep.all g (by assumption), Kep.all g (by assumption), kep_next (by assumption) g⟩)) (fun hH2 => ?_)
    clear hK K hH; have hH := hH2; clear hH2
    try simp only [Act.put, List.setIfInBounds_toArray, List.set_cons_zero, List.set_cons_succ]
    refine wpAnyH_take (i := 36) (oi := { dst := some 71, op := Op.pick (Operand.tmp 65) (Operand.tmp 70) (Operand.const (Value.bool false)), type := _, pos := _, after := _, guard := none }) (v := ?_) rfl (by kernel_rfl) (by kernel_rfl) (by kernel_rfl) (fun _ _ _ h => h) (Or.inl ⟨by rfl, ?_⟩) hH ?_
    rotate_left
    · (intro w hSw; (try dsimp only at hSw); go_simp; (try with_reducible rfl))
    try simp only [Act.put, List.setIfInBounds_toArray, List.set_cons_zero, List.set_cons_succ]
    refine wpAnyH_take (i := 37) (oi := { dst := some 4, op := Op.assign (Operand.tmp 71), type := _, pos := _, after := _, guard := none }) (v := ?_) rfl (by kernel_rfl) (by kernel_rfl) (by kernel_rfl) (fun _ _ _ h => h) (Or.inl ⟨by rfl, ?_⟩) hH ?_
    rotate_left
    · (intro w hSw; (try dsimp only at hSw); go_simp; (try with_reducible rfl))
    try simp only [Act.put, List.setIfInBounds_toArray, List.set_cons_zero, List.set_cons_succ]
    refine wpAnyH_done (by kernel_rfl) ?_ _
    refine NoPanic.normal ?_
    clear x0 x1 x2 x3 x4 x5 x6 x7 x8 x9 y0 y1 y2 y3 y4 y5 y6 y7 y8 y9 c0 c1 c2 c3 c4 gg
    obtain ⟨x0, x1, x2, x3, x4, x5, x6, x7, x8, x9, y0, y1, y2, y3, y4, y5, y6, y7, y8, y9, c0, c1, c2, c3, c4, gg⟩ := hH
    go_wp2_with fail
    go_ret
    exact ⟨rfl, gg⟩
/-- The law ContactDepth. -/
theorem kdl_law (O : QOps) (AW : QAwake) (x y : Bd) (w : World) : Calls Try.prog 4 #[.agg #[.int .u32 x.k, .int .i32 x.r, .int .i32 x.ax, .int .i32 x.ay, .int .i32 x.m, .int .i32 x.o, .int .i32 x.px, .int .i32 x.py, .int .i32 x.vx, .int .i32 x.vy], .agg #[.int .u32 y.k, .int .i32 y.r, .int .i32 y.ax, .int .i32 y.ay, .int .i32 y.m, .int .i32 y.o, .int .i32 y.px, .int .i32 y.py, .int .i32 y.vx, .int .i32 y.vy]] w fun e w' => e = .returned (.bool true) ∧ Kep w.heap.size w w' := by
  cases hr : rgtB x y
  · exact kdl_bad (Lib.hid AW) x y hr w
  · exact kdl_ok O (Lib.hid AW) x y hr w
end Go.Proofs.Ytlcenopebgkjgaa
