/-
  Package impulse: the law ImpulseSeparates.
-/
import Derived.Test.YtnmlknjjbonenaaImpCon
import Derived.Deep.DeepCutAuto
import Derived.Deep.QuietTactic
import Derived.BigQuiet
namespace Go.Proofs.Ytnmlknjjbonenaa
open Go.RowKit Go.Lib

set_option maxRecDepth 100000 in
set_option maxHeartbeats 2000000 in
theorem isl_bad (AW : Hid IAwake) (lo hi nx ny dp : Int) (x y : Bd) (RR : Hid (JRi lo hi nx ny dp x y false)) (w : World) : Calls Try.prog 4 #[.agg #[.int .u32 lo, .int .u32 hi, .int .i32 nx, .int .i32 ny, .int .i32 dp], .agg #[.int .u32 x.k, .int .i32 x.r, .int .i32 x.ax, .int .i32 x.ay, .int .i32 x.m, .int .i32 x.o, .int .i32 x.px, .int .i32 x.py, .int .i32 x.vx, .int .i32 x.vy], .agg #[.int .u32 y.k, .int .i32 y.r, .int .i32 y.ax, .int .i32 y.ay, .int .i32 y.m, .int .i32 y.o, .int .i32 y.px, .int .i32 y.py, .int .i32 y.vx, .int .i32 y.vy]] w fun e w' => e = .returned (.bool true) ∧ Kep w.heap.size w w' := by
  go_enter Try.func4, Try.ntmps4
  go_wp2_with (first
    | ((with_reducible refine (AW.out _).mono ?_); rintro e w1 ⟨rfl, g1⟩
       first
         | (replace gg := kep_next gg g1)
         | (have c0 := Kep.all g1 (a := ⟨w.heap.size, 0, none⟩) (v := .int .u32 lo) (by (repeat (first | rw [World.cell?_drew] | rw [World.cell?_alloc_past _ _ _ (by first | (simp; done) | (simp; omega))])); rw [World.cell?_alloc_at _ _ _ _ (by simp)]; rfl)
            have c1 := Kep.all g1 (a := ⟨w.heap.size, 1, none⟩) (v := .int .u32 hi) (by (repeat (first | rw [World.cell?_drew] | rw [World.cell?_alloc_past _ _ _ (by first | (simp; done) | (simp; omega))])); rw [World.cell?_alloc_at _ _ _ _ (by simp)]; rfl)
            have c2 := Kep.all g1 (a := ⟨w.heap.size, 2, none⟩) (v := .int .i32 nx) (by (repeat (first | rw [World.cell?_drew] | rw [World.cell?_alloc_past _ _ _ (by first | (simp; done) | (simp; omega))])); rw [World.cell?_alloc_at _ _ _ _ (by simp)]; rfl)
            have c3 := Kep.all g1 (a := ⟨w.heap.size, 3, none⟩) (v := .int .i32 ny) (by (repeat (first | rw [World.cell?_drew] | rw [World.cell?_alloc_past _ _ _ (by first | (simp; done) | (simp; omega))])); rw [World.cell?_alloc_at _ _ _ _ (by simp)]; rfl)
            have c4 := Kep.all g1 (a := ⟨w.heap.size, 4, none⟩) (v := .int .i32 dp) (by (repeat (first | rw [World.cell?_drew] | rw [World.cell?_alloc_past _ _ _ (by first | (simp; done) | (simp; omega))])); rw [World.cell?_alloc_at _ _ _ _ (by simp)]; rfl)
            have x0 := Kep.all g1 (a := ⟨w.heap.size + 1, 0, none⟩) (v := .int .u32 x.k) (by (repeat (first | rw [World.cell?_drew] | rw [World.cell?_alloc_past _ _ _ (by first | (simp; done) | (simp; omega))])); rw [World.cell?_alloc_at _ _ _ _ (by simp)]; rfl)
            have x1 := Kep.all g1 (a := ⟨w.heap.size + 1, 1, none⟩) (v := .int .i32 x.r) (by (repeat (first | rw [World.cell?_drew] | rw [World.cell?_alloc_past _ _ _ (by first | (simp; done) | (simp; omega))])); rw [World.cell?_alloc_at _ _ _ _ (by simp)]; rfl)
            have x2 := Kep.all g1 (a := ⟨w.heap.size + 1, 2, none⟩) (v := .int .i32 x.ax) (by (repeat (first | rw [World.cell?_drew] | rw [World.cell?_alloc_past _ _ _ (by first | (simp; done) | (simp; omega))])); rw [World.cell?_alloc_at _ _ _ _ (by simp)]; rfl)
            have x3 := Kep.all g1 (a := ⟨w.heap.size + 1, 3, none⟩) (v := .int .i32 x.ay) (by (repeat (first | rw [World.cell?_drew] | rw [World.cell?_alloc_past _ _ _ (by first | (simp; done) | (simp; omega))])); rw [World.cell?_alloc_at _ _ _ _ (by simp)]; rfl)
            have x4 := Kep.all g1 (a := ⟨w.heap.size + 1, 4, none⟩) (v := .int .i32 x.m) (by (repeat (first | rw [World.cell?_drew] | rw [World.cell?_alloc_past _ _ _ (by first | (simp; done) | (simp; omega))])); rw [World.cell?_alloc_at _ _ _ _ (by simp)]; rfl)
            have x5 := Kep.all g1 (a := ⟨w.heap.size + 1, 5, none⟩) (v := .int .i32 x.o) (by (repeat (first | rw [World.cell?_drew] | rw [World.cell?_alloc_past _ _ _ (by first | (simp; done) | (simp; omega))])); rw [World.cell?_alloc_at _ _ _ _ (by simp)]; rfl)
            have x6 := Kep.all g1 (a := ⟨w.heap.size + 1, 6, none⟩) (v := .int .i32 x.px) (by (repeat (first | rw [World.cell?_drew] | rw [World.cell?_alloc_past _ _ _ (by first | (simp; done) | (simp; omega))])); rw [World.cell?_alloc_at _ _ _ _ (by simp)]; rfl)
            have x7 := Kep.all g1 (a := ⟨w.heap.size + 1, 7, none⟩) (v := .int .i32 x.py) (by (repeat (first | rw [World.cell?_drew] | rw [World.cell?_alloc_past _ _ _ (by first | (simp; done) | (simp; omega))])); rw [World.cell?_alloc_at _ _ _ _ (by simp)]; rfl)
            have x8 := Kep.all g1 (a := ⟨w.heap.size + 1, 8, none⟩) (v := .int .i32 x.vx) (by (repeat (first | rw [World.cell?_drew] | rw [World.cell?_alloc_past _ _ _ (by first | (simp; done) | (simp; omega))])); rw [World.cell?_alloc_at _ _ _ _ (by simp)]; rfl)
            have x9 := Kep.all g1 (a := ⟨w.heap.size + 1, 9, none⟩) (v := .int .i32 x.vy) (by (repeat (first | rw [World.cell?_drew] | rw [World.cell?_alloc_past _ _ _ (by first | (simp; done) | (simp; omega))])); rw [World.cell?_alloc_at _ _ _ _ (by simp)]; rfl)
            have y0 := Kep.all g1 (a := ⟨w.heap.size + 1 + 1, 0, none⟩) (v := .int .u32 y.k) (by (repeat (first | rw [World.cell?_drew] | rw [World.cell?_alloc_past _ _ _ (by first | (simp; done) | (simp; omega))])); rw [World.cell?_alloc_at _ _ _ _ (by simp)]; rfl)
            have y1 := Kep.all g1 (a := ⟨w.heap.size + 1 + 1, 1, none⟩) (v := .int .i32 y.r) (by (repeat (first | rw [World.cell?_drew] | rw [World.cell?_alloc_past _ _ _ (by first | (simp; done) | (simp; omega))])); rw [World.cell?_alloc_at _ _ _ _ (by simp)]; rfl)
            have y2 := Kep.all g1 (a := ⟨w.heap.size + 1 + 1, 2, none⟩) (v := .int .i32 y.ax) (by (repeat (first | rw [World.cell?_drew] | rw [World.cell?_alloc_past _ _ _ (by first | (simp; done) | (simp; omega))])); rw [World.cell?_alloc_at _ _ _ _ (by simp)]; rfl)
            have y3 := Kep.all g1 (a := ⟨w.heap.size + 1 + 1, 3, none⟩) (v := .int .i32 y.ay) (by (repeat (first | rw [World.cell?_drew] | rw [World.cell?_alloc_past _ _ _ (by first | (simp; done) | (simp; omega))])); rw [World.cell?_alloc_at _ _ _ _ (by simp)]; rfl)
            have y4 := Kep.all g1 (a := ⟨w.heap.size + 1 + 1, 4, none⟩) (v := .int .i32 y.m) (by (repeat (first | rw [World.cell?_drew] | rw [World.cell?_alloc_past _ _ _ (by first | (simp; done) | (simp; omega))])); rw [World.cell?_alloc_at _ _ _ _ (by simp)]; rfl)
            have y5 := Kep.all g1 (a := ⟨w.heap.size + 1 + 1, 5, none⟩) (v := .int .i32 y.o) (by (repeat (first | rw [World.cell?_drew] | rw [World.cell?_alloc_past _ _ _ (by first | (simp; done) | (simp; omega))])); rw [World.cell?_alloc_at _ _ _ _ (by simp)]; rfl)
            have y6 := Kep.all g1 (a := ⟨w.heap.size + 1 + 1, 6, none⟩) (v := .int .i32 y.px) (by (repeat (first | rw [World.cell?_drew] | rw [World.cell?_alloc_past _ _ _ (by first | (simp; done) | (simp; omega))])); rw [World.cell?_alloc_at _ _ _ _ (by simp)]; rfl)
            have y7 := Kep.all g1 (a := ⟨w.heap.size + 1 + 1, 7, none⟩) (v := .int .i32 y.py) (by (repeat (first | rw [World.cell?_drew] | rw [World.cell?_alloc_past _ _ _ (by first | (simp; done) | (simp; omega))])); rw [World.cell?_alloc_at _ _ _ _ (by simp)]; rfl)
            have y8 := Kep.all g1 (a := ⟨w.heap.size + 1 + 1, 8, none⟩) (v := .int .i32 y.vx) (by (repeat (first | rw [World.cell?_drew] | rw [World.cell?_alloc_past _ _ _ (by first | (simp; done) | (simp; omega))])); rw [World.cell?_alloc_at _ _ _ _ (by simp)]; rfl)
            have y9 := Kep.all g1 (a := ⟨w.heap.size + 1 + 1, 9, none⟩) (v := .int .i32 y.vy) (by (repeat (first | rw [World.cell?_drew] | rw [World.cell?_alloc_past _ _ _ (by first | (simp; done) | (simp; omega))])); rw [World.cell?_alloc_at _ _ _ _ (by simp)]; rfl)
            have gg := kep_next (kep_more (kep_more (kep_more (Kep.refl _ _) _) _) _) g1
            have zc_w1 : w.heap.size < w1.heap.size := World.block_lt_of_cell? _ _ c0
            have zx_w1 : w.heap.size + 1 < w1.heap.size := World.block_lt_of_cell? _ _ x0
            have zy_w1 : w.heap.size + 1 + 1 < w1.heap.size := World.block_lt_of_cell? _ _ y0))
    | ((with_reducible refine (RR.out _).mono ?_); rintro e w2 ⟨rfl, g2⟩
       replace c0 := Kep.all g2 (a := ⟨w.heap.size, 0, none⟩) (v := .int .u32 lo) c0
       replace c1 := Kep.all g2 (a := ⟨w.heap.size, 1, none⟩) (v := .int .u32 hi) c1
       replace c2 := Kep.all g2 (a := ⟨w.heap.size, 2, none⟩) (v := .int .i32 nx) c2
       replace c3 := Kep.all g2 (a := ⟨w.heap.size, 3, none⟩) (v := .int .i32 ny) c3
       replace c4 := Kep.all g2 (a := ⟨w.heap.size, 4, none⟩) (v := .int .i32 dp) c4
       replace x0 := Kep.all g2 (a := ⟨w.heap.size + 1, 0, none⟩) (v := .int .u32 x.k) x0
       replace x1 := Kep.all g2 (a := ⟨w.heap.size + 1, 1, none⟩) (v := .int .i32 x.r) x1
       replace x2 := Kep.all g2 (a := ⟨w.heap.size + 1, 2, none⟩) (v := .int .i32 x.ax) x2
       replace x3 := Kep.all g2 (a := ⟨w.heap.size + 1, 3, none⟩) (v := .int .i32 x.ay) x3
       replace x4 := Kep.all g2 (a := ⟨w.heap.size + 1, 4, none⟩) (v := .int .i32 x.m) x4
       replace x5 := Kep.all g2 (a := ⟨w.heap.size + 1, 5, none⟩) (v := .int .i32 x.o) x5
       replace x6 := Kep.all g2 (a := ⟨w.heap.size + 1, 6, none⟩) (v := .int .i32 x.px) x6
       replace x7 := Kep.all g2 (a := ⟨w.heap.size + 1, 7, none⟩) (v := .int .i32 x.py) x7
       replace x8 := Kep.all g2 (a := ⟨w.heap.size + 1, 8, none⟩) (v := .int .i32 x.vx) x8
       replace x9 := Kep.all g2 (a := ⟨w.heap.size + 1, 9, none⟩) (v := .int .i32 x.vy) x9
       replace y0 := Kep.all g2 (a := ⟨w.heap.size + 1 + 1, 0, none⟩) (v := .int .u32 y.k) y0
       replace y1 := Kep.all g2 (a := ⟨w.heap.size + 1 + 1, 1, none⟩) (v := .int .i32 y.r) y1
       replace y2 := Kep.all g2 (a := ⟨w.heap.size + 1 + 1, 2, none⟩) (v := .int .i32 y.ax) y2
       replace y3 := Kep.all g2 (a := ⟨w.heap.size + 1 + 1, 3, none⟩) (v := .int .i32 y.ay) y3
       replace y4 := Kep.all g2 (a := ⟨w.heap.size + 1 + 1, 4, none⟩) (v := .int .i32 y.m) y4
       replace y5 := Kep.all g2 (a := ⟨w.heap.size + 1 + 1, 5, none⟩) (v := .int .i32 y.o) y5
       replace y6 := Kep.all g2 (a := ⟨w.heap.size + 1 + 1, 6, none⟩) (v := .int .i32 y.px) y6
       replace y7 := Kep.all g2 (a := ⟨w.heap.size + 1 + 1, 7, none⟩) (v := .int .i32 y.py) y7
       replace y8 := Kep.all g2 (a := ⟨w.heap.size + 1 + 1, 8, none⟩) (v := .int .i32 y.vx) y8
       replace y9 := Kep.all g2 (a := ⟨w.heap.size + 1 + 1, 9, none⟩) (v := .int .i32 y.vy) y9
       replace gg := kep_next gg g2
       have zc_w2 : w.heap.size < w2.heap.size := World.block_lt_of_cell? _ _ c0
       have zx_w2 : w.heap.size + 1 < w2.heap.size := World.block_lt_of_cell? _ _ x0
       have zy_w2 : w.heap.size + 1 + 1 < w2.heap.size := World.block_lt_of_cell? _ _ y0))
  go_ret
  exact ⟨rfl, gg⟩
abbrev IWi (n : Int) : Prop := ∀ w, Calls Try.prog 17 #[.int .i64 n] w fun e w' => e = .returned (.bool true) ∧ w = w'
theorem iwi {n : Int} (h1 : -268435456 ≤ n) (h2 : n ≤ 268435456) : IWi n := fun w => by
  have d1 : decide (-268435456 ≤ n) = true := decide_eq_true h1
  have d2 : decide (n ≤ 268435456) = true := decide_eq_true h2
  clear h1 h2
  go_enter Try.func17, Try.ntmps17
  go_wp2_with fail
  go_ret
  exact ⟨rfl, rfl⟩
theorem chI_zero (j n : Int) : chI j 0 n = 0 := by
  unfold chI
  simp
/-- The changes by a strength are small. -/
theorem ch_st {nx ny : Int} {x y : Bd} (hx : Vb x) (hy : Vb y) (h1 : Nr nx) (h2 : Nr ny) {i n : Int} (hi : 0 ≤ i ∧ i ≤ x.m + y.m) (hn : Nr n) : -268435456 ≤ chI (stI nx ny x y) i n ∧ chI (stI nx ny x y) i n ≤ 268435456 := by
  have hs := st_bd hx hy h1 h2
  have hk : 0 ≤ stI nx ny x y * i ∧ stI nx ny x y * i ≤ 8796093022208 := by
    refine ⟨Int.mul_nonneg hs.1 hi.1, ?_⟩
    by_cases c : 0 ≤ apI nx ny x y ∨ x.m + y.m = 0
    · have e : stI nx ny x y = 0 := if_pos c
      rw [e]
      omega
    · have hn := num_bd hx hy h1 h2 (by omega)
      have e : stI nx ny x y = -(apI nx ny x y) * (65536 + bnI x y) / (x.m + y.m) := if_neg c
      have p := Int.mul_le_mul_of_nonneg_left hi.2 hs.1
      rw [e] at p ⊢
      have q := Int.ediv_mul_le (-(apI nx ny x y) * (65536 + bnI x y)) (show x.m + y.m ≠ 0 by omega)
      omega
  unfold chI
  obtain ⟨k, hkk⟩ : ∃ k, k = stI nx ny x y * i / 65536 := ⟨_, rfl⟩
  rw [← hkk]
  have b := mul_bd (a := k) (b := n) (A := 134217728) (B := 65536) (by omega) hn
  omega
set_option maxRecDepth 100000 in
set_option maxHeartbeats 16000000 in
theorem isl_main (AW : Hid IAwake) (lo hi nx ny dp : Int) (x y : Bd) (j v M p q r s : Int) (RR : Hid (JRi lo hi nx ny dp x y true)) (C1 : Hid (ISt lo hi nx ny dp x y j)) (R1 : Hid (JAp lo hi nx ny dp x y v)) (D1 : Hid (ICh j x.m nx ny p q)) (D2 : Hid (ICh j y.m nx ny r s)) (W1 : Hid (IWi p)) (W2 : Hid (IWi q)) (W3 : Hid (IWi r)) (W4 : Hid (IWi s))
    (d0 : decide (j < 0) = false) (d1 : decide ((8796093022208 : Int) < j) = false) (hj : 0 < j → v < 0 ∧ M ≠ 0) (hM : IntKind.i32.wrap (x.m + y.m) = M) (hp : x.m = 0 → p = 0 ∧ q = 0) (hr : y.m = 0 → r = 0 ∧ s = 0) (w : World) : Calls Try.prog 4 #[.agg #[.int .u32 lo, .int .u32 hi, .int .i32 nx, .int .i32 ny, .int .i32 dp], .agg #[.int .u32 x.k, .int .i32 x.r, .int .i32 x.ax, .int .i32 x.ay, .int .i32 x.m, .int .i32 x.o, .int .i32 x.px, .int .i32 x.py, .int .i32 x.vx, .int .i32 x.vy], .agg #[.int .u32 y.k, .int .i32 y.r, .int .i32 y.ax, .int .i32 y.ay, .int .i32 y.m, .int .i32 y.o, .int .i32 y.px, .int .i32 y.py, .int .i32 y.vx, .int .i32 y.vy]] w fun e w' => e = .returned (.bool true) ∧ Kep w.heap.size w w' := by
  replace hj := Lib.hid hj
  replace hp := Lib.hid hp
  replace hr := Lib.hid hr
  by_cases cj : 0 < j
  · have f0 : decide (0 < j) = true := decide_eq_true cj
    obtain ⟨hv, hm⟩ := hj.out cj
    have f1 : decide (0 ≤ v) = false := decide_eq_false (by omega)
    have f4 : (M == 0) = false := by simp [hm]
    clear cj hv hm
    by_cases ma : x.m = 0
    · have f2 : (x.m == 0) = true := by simp [ma]
      obtain ⟨hp1, hp2⟩ := hp.out ma
      have f7 : (p != 0) = false := by simp [hp1]
      have f8 : (q != 0) = false := by simp [hp2]
      clear hp1 hp2
      by_cases mb : y.m = 0
      · have f3 : (y.m == 0) = true := by simp [mb]
        obtain ⟨hr1, hr2⟩ := hr.out mb
        have f5 : (r != 0) = false := by simp [hr1]
        have f6 : (s != 0) = false := by simp [hr2]
        clear hr1 hr2
        clear ma mb hp hr hj
        go_enter Try.func4, Try.ntmps4
        go_wp2_with (first
          | ((with_reducible refine (AW.out _).mono ?_); rintro e w1 ⟨rfl, g1⟩
             have c0 := Kep.all g1 (a := ⟨w.heap.size, 0, none⟩) (v := .int .u32 lo) (by (repeat (first | rw [World.cell?_drew] | rw [World.cell?_alloc_past _ _ _ (by first | (simp; done) | (simp; omega))])); rw [World.cell?_alloc_at _ _ _ _ (by simp)]; rfl)
             have c1 := Kep.all g1 (a := ⟨w.heap.size, 1, none⟩) (v := .int .u32 hi) (by (repeat (first | rw [World.cell?_drew] | rw [World.cell?_alloc_past _ _ _ (by first | (simp; done) | (simp; omega))])); rw [World.cell?_alloc_at _ _ _ _ (by simp)]; rfl)
             have c2 := Kep.all g1 (a := ⟨w.heap.size, 2, none⟩) (v := .int .i32 nx) (by (repeat (first | rw [World.cell?_drew] | rw [World.cell?_alloc_past _ _ _ (by first | (simp; done) | (simp; omega))])); rw [World.cell?_alloc_at _ _ _ _ (by simp)]; rfl)
             have c3 := Kep.all g1 (a := ⟨w.heap.size, 3, none⟩) (v := .int .i32 ny) (by (repeat (first | rw [World.cell?_drew] | rw [World.cell?_alloc_past _ _ _ (by first | (simp; done) | (simp; omega))])); rw [World.cell?_alloc_at _ _ _ _ (by simp)]; rfl)
             have c4 := Kep.all g1 (a := ⟨w.heap.size, 4, none⟩) (v := .int .i32 dp) (by (repeat (first | rw [World.cell?_drew] | rw [World.cell?_alloc_past _ _ _ (by first | (simp; done) | (simp; omega))])); rw [World.cell?_alloc_at _ _ _ _ (by simp)]; rfl)
             have x0 := Kep.all g1 (a := ⟨w.heap.size + 1, 0, none⟩) (v := .int .u32 x.k) (by (repeat (first | rw [World.cell?_drew] | rw [World.cell?_alloc_past _ _ _ (by first | (simp; done) | (simp; omega))])); rw [World.cell?_alloc_at _ _ _ _ (by simp)]; rfl)
             have x1 := Kep.all g1 (a := ⟨w.heap.size + 1, 1, none⟩) (v := .int .i32 x.r) (by (repeat (first | rw [World.cell?_drew] | rw [World.cell?_alloc_past _ _ _ (by first | (simp; done) | (simp; omega))])); rw [World.cell?_alloc_at _ _ _ _ (by simp)]; rfl)
             have x2 := Kep.all g1 (a := ⟨w.heap.size + 1, 2, none⟩) (v := .int .i32 x.ax) (by (repeat (first | rw [World.cell?_drew] | rw [World.cell?_alloc_past _ _ _ (by first | (simp; done) | (simp; omega))])); rw [World.cell?_alloc_at _ _ _ _ (by simp)]; rfl)
             have x3 := Kep.all g1 (a := ⟨w.heap.size + 1, 3, none⟩) (v := .int .i32 x.ay) (by (repeat (first | rw [World.cell?_drew] | rw [World.cell?_alloc_past _ _ _ (by first | (simp; done) | (simp; omega))])); rw [World.cell?_alloc_at _ _ _ _ (by simp)]; rfl)
             have x4 := Kep.all g1 (a := ⟨w.heap.size + 1, 4, none⟩) (v := .int .i32 x.m) (by (repeat (first | rw [World.cell?_drew] | rw [World.cell?_alloc_past _ _ _ (by first | (simp; done) | (simp; omega))])); rw [World.cell?_alloc_at _ _ _ _ (by simp)]; rfl)
             have x5 := Kep.all g1 (a := ⟨w.heap.size + 1, 5, none⟩) (v := .int .i32 x.o) (by (repeat (first | rw [World.cell?_drew] | rw [World.cell?_alloc_past _ _ _ (by first | (simp; done) | (simp; omega))])); rw [World.cell?_alloc_at _ _ _ _ (by simp)]; rfl)
             have x6 := Kep.all g1 (a := ⟨w.heap.size + 1, 6, none⟩) (v := .int .i32 x.px) (by (repeat (first | rw [World.cell?_drew] | rw [World.cell?_alloc_past _ _ _ (by first | (simp; done) | (simp; omega))])); rw [World.cell?_alloc_at _ _ _ _ (by simp)]; rfl)
             have x7 := Kep.all g1 (a := ⟨w.heap.size + 1, 7, none⟩) (v := .int .i32 x.py) (by (repeat (first | rw [World.cell?_drew] | rw [World.cell?_alloc_past _ _ _ (by first | (simp; done) | (simp; omega))])); rw [World.cell?_alloc_at _ _ _ _ (by simp)]; rfl)
             have x8 := Kep.all g1 (a := ⟨w.heap.size + 1, 8, none⟩) (v := .int .i32 x.vx) (by (repeat (first | rw [World.cell?_drew] | rw [World.cell?_alloc_past _ _ _ (by first | (simp; done) | (simp; omega))])); rw [World.cell?_alloc_at _ _ _ _ (by simp)]; rfl)
             have x9 := Kep.all g1 (a := ⟨w.heap.size + 1, 9, none⟩) (v := .int .i32 x.vy) (by (repeat (first | rw [World.cell?_drew] | rw [World.cell?_alloc_past _ _ _ (by first | (simp; done) | (simp; omega))])); rw [World.cell?_alloc_at _ _ _ _ (by simp)]; rfl)
             have y0 := Kep.all g1 (a := ⟨w.heap.size + 1 + 1, 0, none⟩) (v := .int .u32 y.k) (by (repeat (first | rw [World.cell?_drew] | rw [World.cell?_alloc_past _ _ _ (by first | (simp; done) | (simp; omega))])); rw [World.cell?_alloc_at _ _ _ _ (by simp)]; rfl)
             have y1 := Kep.all g1 (a := ⟨w.heap.size + 1 + 1, 1, none⟩) (v := .int .i32 y.r) (by (repeat (first | rw [World.cell?_drew] | rw [World.cell?_alloc_past _ _ _ (by first | (simp; done) | (simp; omega))])); rw [World.cell?_alloc_at _ _ _ _ (by simp)]; rfl)
             have y2 := Kep.all g1 (a := ⟨w.heap.size + 1 + 1, 2, none⟩) (v := .int .i32 y.ax) (by (repeat (first | rw [World.cell?_drew] | rw [World.cell?_alloc_past _ _ _ (by first | (simp; done) | (simp; omega))])); rw [World.cell?_alloc_at _ _ _ _ (by simp)]; rfl)
             have y3 := Kep.all g1 (a := ⟨w.heap.size + 1 + 1, 3, none⟩) (v := .int .i32 y.ay) (by (repeat (first | rw [World.cell?_drew] | rw [World.cell?_alloc_past _ _ _ (by first | (simp; done) | (simp; omega))])); rw [World.cell?_alloc_at _ _ _ _ (by simp)]; rfl)
             have y4 := Kep.all g1 (a := ⟨w.heap.size + 1 + 1, 4, none⟩) (v := .int .i32 y.m) (by (repeat (first | rw [World.cell?_drew] | rw [World.cell?_alloc_past _ _ _ (by first | (simp; done) | (simp; omega))])); rw [World.cell?_alloc_at _ _ _ _ (by simp)]; rfl)
             have y5 := Kep.all g1 (a := ⟨w.heap.size + 1 + 1, 5, none⟩) (v := .int .i32 y.o) (by (repeat (first | rw [World.cell?_drew] | rw [World.cell?_alloc_past _ _ _ (by first | (simp; done) | (simp; omega))])); rw [World.cell?_alloc_at _ _ _ _ (by simp)]; rfl)
             have y6 := Kep.all g1 (a := ⟨w.heap.size + 1 + 1, 6, none⟩) (v := .int .i32 y.px) (by (repeat (first | rw [World.cell?_drew] | rw [World.cell?_alloc_past _ _ _ (by first | (simp; done) | (simp; omega))])); rw [World.cell?_alloc_at _ _ _ _ (by simp)]; rfl)
             have y7 := Kep.all g1 (a := ⟨w.heap.size + 1 + 1, 7, none⟩) (v := .int .i32 y.py) (by (repeat (first | rw [World.cell?_drew] | rw [World.cell?_alloc_past _ _ _ (by first | (simp; done) | (simp; omega))])); rw [World.cell?_alloc_at _ _ _ _ (by simp)]; rfl)
             have y8 := Kep.all g1 (a := ⟨w.heap.size + 1 + 1, 8, none⟩) (v := .int .i32 y.vx) (by (repeat (first | rw [World.cell?_drew] | rw [World.cell?_alloc_past _ _ _ (by first | (simp; done) | (simp; omega))])); rw [World.cell?_alloc_at _ _ _ _ (by simp)]; rfl)
             have y9 := Kep.all g1 (a := ⟨w.heap.size + 1 + 1, 9, none⟩) (v := .int .i32 y.vy) (by (repeat (first | rw [World.cell?_drew] | rw [World.cell?_alloc_past _ _ _ (by first | (simp; done) | (simp; omega))])); rw [World.cell?_alloc_at _ _ _ _ (by simp)]; rfl)
             have gg := kep_next (kep_more (kep_more (kep_more (Kep.refl _ _) _) _) _) g1
             have zc_w1 : w.heap.size < w1.heap.size := World.block_lt_of_cell? _ _ c0
             have zx_w1 : w.heap.size + 1 < w1.heap.size := World.block_lt_of_cell? _ _ x0
             have zy_w1 : w.heap.size + 1 + 1 < w1.heap.size := World.block_lt_of_cell? _ _ y0)
          | ((with_reducible refine (RR.out _).mono ?_); rintro e w2 ⟨rfl, g2⟩
             replace c0 := Kep.all g2 (a := ⟨w.heap.size, 0, none⟩) (v := .int .u32 lo) c0
             replace c1 := Kep.all g2 (a := ⟨w.heap.size, 1, none⟩) (v := .int .u32 hi) c1
             replace c2 := Kep.all g2 (a := ⟨w.heap.size, 2, none⟩) (v := .int .i32 nx) c2
             replace c3 := Kep.all g2 (a := ⟨w.heap.size, 3, none⟩) (v := .int .i32 ny) c3
             replace c4 := Kep.all g2 (a := ⟨w.heap.size, 4, none⟩) (v := .int .i32 dp) c4
             replace x0 := Kep.all g2 (a := ⟨w.heap.size + 1, 0, none⟩) (v := .int .u32 x.k) x0
             replace x1 := Kep.all g2 (a := ⟨w.heap.size + 1, 1, none⟩) (v := .int .i32 x.r) x1
             replace x2 := Kep.all g2 (a := ⟨w.heap.size + 1, 2, none⟩) (v := .int .i32 x.ax) x2
             replace x3 := Kep.all g2 (a := ⟨w.heap.size + 1, 3, none⟩) (v := .int .i32 x.ay) x3
             replace x4 := Kep.all g2 (a := ⟨w.heap.size + 1, 4, none⟩) (v := .int .i32 x.m) x4
             replace x5 := Kep.all g2 (a := ⟨w.heap.size + 1, 5, none⟩) (v := .int .i32 x.o) x5
             replace x6 := Kep.all g2 (a := ⟨w.heap.size + 1, 6, none⟩) (v := .int .i32 x.px) x6
             replace x7 := Kep.all g2 (a := ⟨w.heap.size + 1, 7, none⟩) (v := .int .i32 x.py) x7
             replace x8 := Kep.all g2 (a := ⟨w.heap.size + 1, 8, none⟩) (v := .int .i32 x.vx) x8
             replace x9 := Kep.all g2 (a := ⟨w.heap.size + 1, 9, none⟩) (v := .int .i32 x.vy) x9
             replace y0 := Kep.all g2 (a := ⟨w.heap.size + 1 + 1, 0, none⟩) (v := .int .u32 y.k) y0
             replace y1 := Kep.all g2 (a := ⟨w.heap.size + 1 + 1, 1, none⟩) (v := .int .i32 y.r) y1
             replace y2 := Kep.all g2 (a := ⟨w.heap.size + 1 + 1, 2, none⟩) (v := .int .i32 y.ax) y2
             replace y3 := Kep.all g2 (a := ⟨w.heap.size + 1 + 1, 3, none⟩) (v := .int .i32 y.ay) y3
             replace y4 := Kep.all g2 (a := ⟨w.heap.size + 1 + 1, 4, none⟩) (v := .int .i32 y.m) y4
             replace y5 := Kep.all g2 (a := ⟨w.heap.size + 1 + 1, 5, none⟩) (v := .int .i32 y.o) y5
             replace y6 := Kep.all g2 (a := ⟨w.heap.size + 1 + 1, 6, none⟩) (v := .int .i32 y.px) y6
             replace y7 := Kep.all g2 (a := ⟨w.heap.size + 1 + 1, 7, none⟩) (v := .int .i32 y.py) y7
             replace y8 := Kep.all g2 (a := ⟨w.heap.size + 1 + 1, 8, none⟩) (v := .int .i32 y.vx) y8
             replace y9 := Kep.all g2 (a := ⟨w.heap.size + 1 + 1, 9, none⟩) (v := .int .i32 y.vy) y9
             replace gg := kep_next gg g2
             have zc_w2 : w.heap.size < w2.heap.size := World.block_lt_of_cell? _ _ c0
             have zx_w2 : w.heap.size + 1 < w2.heap.size := World.block_lt_of_cell? _ _ x0
             have zy_w2 : w.heap.size + 1 + 1 < w2.heap.size := World.block_lt_of_cell? _ _ y0)
          | ((with_reducible refine (C1.out _).mono ?_); rintro e w3 ⟨rfl, g3⟩
             replace c0 := Kep.all g3 (a := ⟨w.heap.size, 0, none⟩) (v := .int .u32 lo) c0
             replace c1 := Kep.all g3 (a := ⟨w.heap.size, 1, none⟩) (v := .int .u32 hi) c1
             replace c2 := Kep.all g3 (a := ⟨w.heap.size, 2, none⟩) (v := .int .i32 nx) c2
             replace c3 := Kep.all g3 (a := ⟨w.heap.size, 3, none⟩) (v := .int .i32 ny) c3
             replace c4 := Kep.all g3 (a := ⟨w.heap.size, 4, none⟩) (v := .int .i32 dp) c4
             replace x0 := Kep.all g3 (a := ⟨w.heap.size + 1, 0, none⟩) (v := .int .u32 x.k) x0
             replace x1 := Kep.all g3 (a := ⟨w.heap.size + 1, 1, none⟩) (v := .int .i32 x.r) x1
             replace x2 := Kep.all g3 (a := ⟨w.heap.size + 1, 2, none⟩) (v := .int .i32 x.ax) x2
             replace x3 := Kep.all g3 (a := ⟨w.heap.size + 1, 3, none⟩) (v := .int .i32 x.ay) x3
             replace x4 := Kep.all g3 (a := ⟨w.heap.size + 1, 4, none⟩) (v := .int .i32 x.m) x4
             replace x5 := Kep.all g3 (a := ⟨w.heap.size + 1, 5, none⟩) (v := .int .i32 x.o) x5
             replace x6 := Kep.all g3 (a := ⟨w.heap.size + 1, 6, none⟩) (v := .int .i32 x.px) x6
             replace x7 := Kep.all g3 (a := ⟨w.heap.size + 1, 7, none⟩) (v := .int .i32 x.py) x7
             replace x8 := Kep.all g3 (a := ⟨w.heap.size + 1, 8, none⟩) (v := .int .i32 x.vx) x8
             replace x9 := Kep.all g3 (a := ⟨w.heap.size + 1, 9, none⟩) (v := .int .i32 x.vy) x9
             replace y0 := Kep.all g3 (a := ⟨w.heap.size + 1 + 1, 0, none⟩) (v := .int .u32 y.k) y0
             replace y1 := Kep.all g3 (a := ⟨w.heap.size + 1 + 1, 1, none⟩) (v := .int .i32 y.r) y1
             replace y2 := Kep.all g3 (a := ⟨w.heap.size + 1 + 1, 2, none⟩) (v := .int .i32 y.ax) y2
             replace y3 := Kep.all g3 (a := ⟨w.heap.size + 1 + 1, 3, none⟩) (v := .int .i32 y.ay) y3
             replace y4 := Kep.all g3 (a := ⟨w.heap.size + 1 + 1, 4, none⟩) (v := .int .i32 y.m) y4
             replace y5 := Kep.all g3 (a := ⟨w.heap.size + 1 + 1, 5, none⟩) (v := .int .i32 y.o) y5
             replace y6 := Kep.all g3 (a := ⟨w.heap.size + 1 + 1, 6, none⟩) (v := .int .i32 y.px) y6
             replace y7 := Kep.all g3 (a := ⟨w.heap.size + 1 + 1, 7, none⟩) (v := .int .i32 y.py) y7
             replace y8 := Kep.all g3 (a := ⟨w.heap.size + 1 + 1, 8, none⟩) (v := .int .i32 y.vx) y8
             replace y9 := Kep.all g3 (a := ⟨w.heap.size + 1 + 1, 9, none⟩) (v := .int .i32 y.vy) y9
             replace gg := kep_next gg g3
             have zc_w3 : w.heap.size < w3.heap.size := World.block_lt_of_cell? _ _ c0
             have zx_w3 : w.heap.size + 1 < w3.heap.size := World.block_lt_of_cell? _ _ x0
             have zy_w3 : w.heap.size + 1 + 1 < w3.heap.size := World.block_lt_of_cell? _ _ y0)
          | ((with_reducible refine (R1.out _).mono ?_); rintro e w4 ⟨rfl, g4⟩
             replace c0 := Kep.all g4 (a := ⟨w.heap.size, 0, none⟩) (v := .int .u32 lo) c0
             replace c1 := Kep.all g4 (a := ⟨w.heap.size, 1, none⟩) (v := .int .u32 hi) c1
             replace c2 := Kep.all g4 (a := ⟨w.heap.size, 2, none⟩) (v := .int .i32 nx) c2
             replace c3 := Kep.all g4 (a := ⟨w.heap.size, 3, none⟩) (v := .int .i32 ny) c3
             replace c4 := Kep.all g4 (a := ⟨w.heap.size, 4, none⟩) (v := .int .i32 dp) c4
             replace x0 := Kep.all g4 (a := ⟨w.heap.size + 1, 0, none⟩) (v := .int .u32 x.k) x0
             replace x1 := Kep.all g4 (a := ⟨w.heap.size + 1, 1, none⟩) (v := .int .i32 x.r) x1
             replace x2 := Kep.all g4 (a := ⟨w.heap.size + 1, 2, none⟩) (v := .int .i32 x.ax) x2
             replace x3 := Kep.all g4 (a := ⟨w.heap.size + 1, 3, none⟩) (v := .int .i32 x.ay) x3
             replace x4 := Kep.all g4 (a := ⟨w.heap.size + 1, 4, none⟩) (v := .int .i32 x.m) x4
             replace x5 := Kep.all g4 (a := ⟨w.heap.size + 1, 5, none⟩) (v := .int .i32 x.o) x5
             replace x6 := Kep.all g4 (a := ⟨w.heap.size + 1, 6, none⟩) (v := .int .i32 x.px) x6
             replace x7 := Kep.all g4 (a := ⟨w.heap.size + 1, 7, none⟩) (v := .int .i32 x.py) x7
             replace x8 := Kep.all g4 (a := ⟨w.heap.size + 1, 8, none⟩) (v := .int .i32 x.vx) x8
             replace x9 := Kep.all g4 (a := ⟨w.heap.size + 1, 9, none⟩) (v := .int .i32 x.vy) x9
             replace y0 := Kep.all g4 (a := ⟨w.heap.size + 1 + 1, 0, none⟩) (v := .int .u32 y.k) y0
             replace y1 := Kep.all g4 (a := ⟨w.heap.size + 1 + 1, 1, none⟩) (v := .int .i32 y.r) y1
             replace y2 := Kep.all g4 (a := ⟨w.heap.size + 1 + 1, 2, none⟩) (v := .int .i32 y.ax) y2
             replace y3 := Kep.all g4 (a := ⟨w.heap.size + 1 + 1, 3, none⟩) (v := .int .i32 y.ay) y3
             replace y4 := Kep.all g4 (a := ⟨w.heap.size + 1 + 1, 4, none⟩) (v := .int .i32 y.m) y4
             replace y5 := Kep.all g4 (a := ⟨w.heap.size + 1 + 1, 5, none⟩) (v := .int .i32 y.o) y5
             replace y6 := Kep.all g4 (a := ⟨w.heap.size + 1 + 1, 6, none⟩) (v := .int .i32 y.px) y6
             replace y7 := Kep.all g4 (a := ⟨w.heap.size + 1 + 1, 7, none⟩) (v := .int .i32 y.py) y7
             replace y8 := Kep.all g4 (a := ⟨w.heap.size + 1 + 1, 8, none⟩) (v := .int .i32 y.vx) y8
             replace y9 := Kep.all g4 (a := ⟨w.heap.size + 1 + 1, 9, none⟩) (v := .int .i32 y.vy) y9
             replace gg := kep_next gg g4
             have zc_w4 : w.heap.size < w4.heap.size := World.block_lt_of_cell? _ _ c0
             have zx_w4 : w.heap.size + 1 < w4.heap.size := World.block_lt_of_cell? _ _ x0
             have zy_w4 : w.heap.size + 1 + 1 < w4.heap.size := World.block_lt_of_cell? _ _ y0)
          | ((with_reducible refine (D1.out _).mono ?_); rintro e w5 ⟨rfl, g5⟩
             replace c0 := Kep.all g5 (a := ⟨w.heap.size, 0, none⟩) (v := .int .u32 lo) c0
             replace c1 := Kep.all g5 (a := ⟨w.heap.size, 1, none⟩) (v := .int .u32 hi) c1
             replace c2 := Kep.all g5 (a := ⟨w.heap.size, 2, none⟩) (v := .int .i32 nx) c2
             replace c3 := Kep.all g5 (a := ⟨w.heap.size, 3, none⟩) (v := .int .i32 ny) c3
             replace c4 := Kep.all g5 (a := ⟨w.heap.size, 4, none⟩) (v := .int .i32 dp) c4
             replace x0 := Kep.all g5 (a := ⟨w.heap.size + 1, 0, none⟩) (v := .int .u32 x.k) x0
             replace x1 := Kep.all g5 (a := ⟨w.heap.size + 1, 1, none⟩) (v := .int .i32 x.r) x1
             replace x2 := Kep.all g5 (a := ⟨w.heap.size + 1, 2, none⟩) (v := .int .i32 x.ax) x2
             replace x3 := Kep.all g5 (a := ⟨w.heap.size + 1, 3, none⟩) (v := .int .i32 x.ay) x3
             replace x4 := Kep.all g5 (a := ⟨w.heap.size + 1, 4, none⟩) (v := .int .i32 x.m) x4
             replace x5 := Kep.all g5 (a := ⟨w.heap.size + 1, 5, none⟩) (v := .int .i32 x.o) x5
             replace x6 := Kep.all g5 (a := ⟨w.heap.size + 1, 6, none⟩) (v := .int .i32 x.px) x6
             replace x7 := Kep.all g5 (a := ⟨w.heap.size + 1, 7, none⟩) (v := .int .i32 x.py) x7
             replace x8 := Kep.all g5 (a := ⟨w.heap.size + 1, 8, none⟩) (v := .int .i32 x.vx) x8
             replace x9 := Kep.all g5 (a := ⟨w.heap.size + 1, 9, none⟩) (v := .int .i32 x.vy) x9
             replace y0 := Kep.all g5 (a := ⟨w.heap.size + 1 + 1, 0, none⟩) (v := .int .u32 y.k) y0
             replace y1 := Kep.all g5 (a := ⟨w.heap.size + 1 + 1, 1, none⟩) (v := .int .i32 y.r) y1
             replace y2 := Kep.all g5 (a := ⟨w.heap.size + 1 + 1, 2, none⟩) (v := .int .i32 y.ax) y2
             replace y3 := Kep.all g5 (a := ⟨w.heap.size + 1 + 1, 3, none⟩) (v := .int .i32 y.ay) y3
             replace y4 := Kep.all g5 (a := ⟨w.heap.size + 1 + 1, 4, none⟩) (v := .int .i32 y.m) y4
             replace y5 := Kep.all g5 (a := ⟨w.heap.size + 1 + 1, 5, none⟩) (v := .int .i32 y.o) y5
             replace y6 := Kep.all g5 (a := ⟨w.heap.size + 1 + 1, 6, none⟩) (v := .int .i32 y.px) y6
             replace y7 := Kep.all g5 (a := ⟨w.heap.size + 1 + 1, 7, none⟩) (v := .int .i32 y.py) y7
             replace y8 := Kep.all g5 (a := ⟨w.heap.size + 1 + 1, 8, none⟩) (v := .int .i32 y.vx) y8
             replace y9 := Kep.all g5 (a := ⟨w.heap.size + 1 + 1, 9, none⟩) (v := .int .i32 y.vy) y9
             replace gg := kep_next gg g5
             have zc_w5 : w.heap.size < w5.heap.size := World.block_lt_of_cell? _ _ c0
             have zx_w5 : w.heap.size + 1 < w5.heap.size := World.block_lt_of_cell? _ _ x0
             have zy_w5 : w.heap.size + 1 + 1 < w5.heap.size := World.block_lt_of_cell? _ _ y0)
          | ((with_reducible refine (D2.out _).mono ?_); rintro e w6 ⟨rfl, g6⟩
             replace c0 := Kep.all g6 (a := ⟨w.heap.size, 0, none⟩) (v := .int .u32 lo) c0
             replace c1 := Kep.all g6 (a := ⟨w.heap.size, 1, none⟩) (v := .int .u32 hi) c1
             replace c2 := Kep.all g6 (a := ⟨w.heap.size, 2, none⟩) (v := .int .i32 nx) c2
             replace c3 := Kep.all g6 (a := ⟨w.heap.size, 3, none⟩) (v := .int .i32 ny) c3
             replace c4 := Kep.all g6 (a := ⟨w.heap.size, 4, none⟩) (v := .int .i32 dp) c4
             replace x0 := Kep.all g6 (a := ⟨w.heap.size + 1, 0, none⟩) (v := .int .u32 x.k) x0
             replace x1 := Kep.all g6 (a := ⟨w.heap.size + 1, 1, none⟩) (v := .int .i32 x.r) x1
             replace x2 := Kep.all g6 (a := ⟨w.heap.size + 1, 2, none⟩) (v := .int .i32 x.ax) x2
             replace x3 := Kep.all g6 (a := ⟨w.heap.size + 1, 3, none⟩) (v := .int .i32 x.ay) x3
             replace x4 := Kep.all g6 (a := ⟨w.heap.size + 1, 4, none⟩) (v := .int .i32 x.m) x4
             replace x5 := Kep.all g6 (a := ⟨w.heap.size + 1, 5, none⟩) (v := .int .i32 x.o) x5
             replace x6 := Kep.all g6 (a := ⟨w.heap.size + 1, 6, none⟩) (v := .int .i32 x.px) x6
             replace x7 := Kep.all g6 (a := ⟨w.heap.size + 1, 7, none⟩) (v := .int .i32 x.py) x7
             replace x8 := Kep.all g6 (a := ⟨w.heap.size + 1, 8, none⟩) (v := .int .i32 x.vx) x8
             replace x9 := Kep.all g6 (a := ⟨w.heap.size + 1, 9, none⟩) (v := .int .i32 x.vy) x9
             replace y0 := Kep.all g6 (a := ⟨w.heap.size + 1 + 1, 0, none⟩) (v := .int .u32 y.k) y0
             replace y1 := Kep.all g6 (a := ⟨w.heap.size + 1 + 1, 1, none⟩) (v := .int .i32 y.r) y1
             replace y2 := Kep.all g6 (a := ⟨w.heap.size + 1 + 1, 2, none⟩) (v := .int .i32 y.ax) y2
             replace y3 := Kep.all g6 (a := ⟨w.heap.size + 1 + 1, 3, none⟩) (v := .int .i32 y.ay) y3
             replace y4 := Kep.all g6 (a := ⟨w.heap.size + 1 + 1, 4, none⟩) (v := .int .i32 y.m) y4
             replace y5 := Kep.all g6 (a := ⟨w.heap.size + 1 + 1, 5, none⟩) (v := .int .i32 y.o) y5
             replace y6 := Kep.all g6 (a := ⟨w.heap.size + 1 + 1, 6, none⟩) (v := .int .i32 y.px) y6
             replace y7 := Kep.all g6 (a := ⟨w.heap.size + 1 + 1, 7, none⟩) (v := .int .i32 y.py) y7
             replace y8 := Kep.all g6 (a := ⟨w.heap.size + 1 + 1, 8, none⟩) (v := .int .i32 y.vx) y8
             replace y9 := Kep.all g6 (a := ⟨w.heap.size + 1 + 1, 9, none⟩) (v := .int .i32 y.vy) y9
             replace gg := kep_next gg g6
             have zc_w6 : w.heap.size < w6.heap.size := World.block_lt_of_cell? _ _ c0
             have zx_w6 : w.heap.size + 1 < w6.heap.size := World.block_lt_of_cell? _ _ x0
             have zy_w6 : w.heap.size + 1 + 1 < w6.heap.size := World.block_lt_of_cell? _ _ y0)
          | ((with_reducible refine (W1.out _).mono ?_); rintro e w' ⟨rfl, rfl⟩)
          | ((with_reducible refine (W2.out _).mono ?_); rintro e w' ⟨rfl, rfl⟩)
          | ((with_reducible refine (W3.out _).mono ?_); rintro e w' ⟨rfl, rfl⟩)
          | ((with_reducible refine (W4.out _).mono ?_); rintro e w' ⟨rfl, rfl⟩))
        go_ret
        exact ⟨rfl, gg⟩
      · have f3 : (y.m == 0) = false := by simp [mb]
        clear ma mb hp hr hj
        go_enter Try.func4, Try.ntmps4
        go_wp2_with (first
          | ((with_reducible refine (AW.out _).mono ?_); rintro e w1 ⟨rfl, g1⟩
             have c0 := Kep.all g1 (a := ⟨w.heap.size, 0, none⟩) (v := .int .u32 lo) (by (repeat (first | rw [World.cell?_drew] | rw [World.cell?_alloc_past _ _ _ (by first | (simp; done) | (simp; omega))])); rw [World.cell?_alloc_at _ _ _ _ (by simp)]; rfl)
             have c1 := Kep.all g1 (a := ⟨w.heap.size, 1, none⟩) (v := .int .u32 hi) (by (repeat (first | rw [World.cell?_drew] | rw [World.cell?_alloc_past _ _ _ (by first | (simp; done) | (simp; omega))])); rw [World.cell?_alloc_at _ _ _ _ (by simp)]; rfl)
             have c2 := Kep.all g1 (a := ⟨w.heap.size, 2, none⟩) (v := .int .i32 nx) (by (repeat (first | rw [World.cell?_drew] | rw [World.cell?_alloc_past _ _ _ (by first | (simp; done) | (simp; omega))])); rw [World.cell?_alloc_at _ _ _ _ (by simp)]; rfl)
             have c3 := Kep.all g1 (a := ⟨w.heap.size, 3, none⟩) (v := .int .i32 ny) (by (repeat (first | rw [World.cell?_drew] | rw [World.cell?_alloc_past _ _ _ (by first | (simp; done) | (simp; omega))])); rw [World.cell?_alloc_at _ _ _ _ (by simp)]; rfl)
             have c4 := Kep.all g1 (a := ⟨w.heap.size, 4, none⟩) (v := .int .i32 dp) (by (repeat (first | rw [World.cell?_drew] | rw [World.cell?_alloc_past _ _ _ (by first | (simp; done) | (simp; omega))])); rw [World.cell?_alloc_at _ _ _ _ (by simp)]; rfl)
             have x0 := Kep.all g1 (a := ⟨w.heap.size + 1, 0, none⟩) (v := .int .u32 x.k) (by (repeat (first | rw [World.cell?_drew] | rw [World.cell?_alloc_past _ _ _ (by first | (simp; done) | (simp; omega))])); rw [World.cell?_alloc_at _ _ _ _ (by simp)]; rfl)
             have x1 := Kep.all g1 (a := ⟨w.heap.size + 1, 1, none⟩) (v := .int .i32 x.r) (by (repeat (first | rw [World.cell?_drew] | rw [World.cell?_alloc_past _ _ _ (by first | (simp; done) | (simp; omega))])); rw [World.cell?_alloc_at _ _ _ _ (by simp)]; rfl)
             have x2 := Kep.all g1 (a := ⟨w.heap.size + 1, 2, none⟩) (v := .int .i32 x.ax) (by (repeat (first | rw [World.cell?_drew] | rw [World.cell?_alloc_past _ _ _ (by first | (simp; done) | (simp; omega))])); rw [World.cell?_alloc_at _ _ _ _ (by simp)]; rfl)
             have x3 := Kep.all g1 (a := ⟨w.heap.size + 1, 3, none⟩) (v := .int .i32 x.ay) (by (repeat (first | rw [World.cell?_drew] | rw [World.cell?_alloc_past _ _ _ (by first | (simp; done) | (simp; omega))])); rw [World.cell?_alloc_at _ _ _ _ (by simp)]; rfl)
             have x4 := Kep.all g1 (a := ⟨w.heap.size + 1, 4, none⟩) (v := .int .i32 x.m) (by (repeat (first | rw [World.cell?_drew] | rw [World.cell?_alloc_past _ _ _ (by first | (simp; done) | (simp; omega))])); rw [World.cell?_alloc_at _ _ _ _ (by simp)]; rfl)
             have x5 := Kep.all g1 (a := ⟨w.heap.size + 1, 5, none⟩) (v := .int .i32 x.o) (by (repeat (first | rw [World.cell?_drew] | rw [World.cell?_alloc_past _ _ _ (by first | (simp; done) | (simp; omega))])); rw [World.cell?_alloc_at _ _ _ _ (by simp)]; rfl)
             have x6 := Kep.all g1 (a := ⟨w.heap.size + 1, 6, none⟩) (v := .int .i32 x.px) (by (repeat (first | rw [World.cell?_drew] | rw [World.cell?_alloc_past _ _ _ (by first | (simp; done) | (simp; omega))])); rw [World.cell?_alloc_at _ _ _ _ (by simp)]; rfl)
             have x7 := Kep.all g1 (a := ⟨w.heap.size + 1, 7, none⟩) (v := .int .i32 x.py) (by (repeat (first | rw [World.cell?_drew] | rw [World.cell?_alloc_past _ _ _ (by first | (simp; done) | (simp; omega))])); rw [World.cell?_alloc_at _ _ _ _ (by simp)]; rfl)
             have x8 := Kep.all g1 (a := ⟨w.heap.size + 1, 8, none⟩) (v := .int .i32 x.vx) (by (repeat (first | rw [World.cell?_drew] | rw [World.cell?_alloc_past _ _ _ (by first | (simp; done) | (simp; omega))])); rw [World.cell?_alloc_at _ _ _ _ (by simp)]; rfl)
             have x9 := Kep.all g1 (a := ⟨w.heap.size + 1, 9, none⟩) (v := .int .i32 x.vy) (by (repeat (first | rw [World.cell?_drew] | rw [World.cell?_alloc_past _ _ _ (by first | (simp; done) | (simp; omega))])); rw [World.cell?_alloc_at _ _ _ _ (by simp)]; rfl)
             have y0 := Kep.all g1 (a := ⟨w.heap.size + 1 + 1, 0, none⟩) (v := .int .u32 y.k) (by (repeat (first | rw [World.cell?_drew] | rw [World.cell?_alloc_past _ _ _ (by first | (simp; done) | (simp; omega))])); rw [World.cell?_alloc_at _ _ _ _ (by simp)]; rfl)
             have y1 := Kep.all g1 (a := ⟨w.heap.size + 1 + 1, 1, none⟩) (v := .int .i32 y.r) (by (repeat (first | rw [World.cell?_drew] | rw [World.cell?_alloc_past _ _ _ (by first | (simp; done) | (simp; omega))])); rw [World.cell?_alloc_at _ _ _ _ (by simp)]; rfl)
             have y2 := Kep.all g1 (a := ⟨w.heap.size + 1 + 1, 2, none⟩) (v := .int .i32 y.ax) (by (repeat (first | rw [World.cell?_drew] | rw [World.cell?_alloc_past _ _ _ (by first | (simp; done) | (simp; omega))])); rw [World.cell?_alloc_at _ _ _ _ (by simp)]; rfl)
             have y3 := Kep.all g1 (a := ⟨w.heap.size + 1 + 1, 3, none⟩) (v := .int .i32 y.ay) (by (repeat (first | rw [World.cell?_drew] | rw [World.cell?_alloc_past _ _ _ (by first | (simp; done) | (simp; omega))])); rw [World.cell?_alloc_at _ _ _ _ (by simp)]; rfl)
             have y4 := Kep.all g1 (a := ⟨w.heap.size + 1 + 1, 4, none⟩) (v := .int .i32 y.m) (by (repeat (first | rw [World.cell?_drew] | rw [World.cell?_alloc_past _ _ _ (by first | (simp; done) | (simp; omega))])); rw [World.cell?_alloc_at _ _ _ _ (by simp)]; rfl)
             have y5 := Kep.all g1 (a := ⟨w.heap.size + 1 + 1, 5, none⟩) (v := .int .i32 y.o) (by (repeat (first | rw [World.cell?_drew] | rw [World.cell?_alloc_past _ _ _ (by first | (simp; done) | (simp; omega))])); rw [World.cell?_alloc_at _ _ _ _ (by simp)]; rfl)
             have y6 := Kep.all g1 (a := ⟨w.heap.size + 1 + 1, 6, none⟩) (v := .int .i32 y.px) (by (repeat (first | rw [World.cell?_drew] | rw [World.cell?_alloc_past _ _ _ (by first | (simp; done) | (simp; omega))])); rw [World.cell?_alloc_at _ _ _ _ (by simp)]; rfl)
             have y7 := Kep.all g1 (a := ⟨w.heap.size + 1 + 1, 7, none⟩) (v := .int .i32 y.py) (by (repeat (first | rw [World.cell?_drew] | rw [World.cell?_alloc_past _ _ _ (by first | (simp; done) | (simp; omega))])); rw [World.cell?_alloc_at _ _ _ _ (by simp)]; rfl)
             have y8 := Kep.all g1 (a := ⟨w.heap.size + 1 + 1, 8, none⟩) (v := .int .i32 y.vx) (by (repeat (first | rw [World.cell?_drew] | rw [World.cell?_alloc_past _ _ _ (by first | (simp; done) | (simp; omega))])); rw [World.cell?_alloc_at _ _ _ _ (by simp)]; rfl)
             have y9 := Kep.all g1 (a := ⟨w.heap.size + 1 + 1, 9, none⟩) (v := .int .i32 y.vy) (by (repeat (first | rw [World.cell?_drew] | rw [World.cell?_alloc_past _ _ _ (by first | (simp; done) | (simp; omega))])); rw [World.cell?_alloc_at _ _ _ _ (by simp)]; rfl)
             have gg := kep_next (kep_more (kep_more (kep_more (Kep.refl _ _) _) _) _) g1
             have zc_w1 : w.heap.size < w1.heap.size := World.block_lt_of_cell? _ _ c0
             have zx_w1 : w.heap.size + 1 < w1.heap.size := World.block_lt_of_cell? _ _ x0
             have zy_w1 : w.heap.size + 1 + 1 < w1.heap.size := World.block_lt_of_cell? _ _ y0)
          | ((with_reducible refine (RR.out _).mono ?_); rintro e w2 ⟨rfl, g2⟩
             replace c0 := Kep.all g2 (a := ⟨w.heap.size, 0, none⟩) (v := .int .u32 lo) c0
             replace c1 := Kep.all g2 (a := ⟨w.heap.size, 1, none⟩) (v := .int .u32 hi) c1
             replace c2 := Kep.all g2 (a := ⟨w.heap.size, 2, none⟩) (v := .int .i32 nx) c2
             replace c3 := Kep.all g2 (a := ⟨w.heap.size, 3, none⟩) (v := .int .i32 ny) c3
             replace c4 := Kep.all g2 (a := ⟨w.heap.size, 4, none⟩) (v := .int .i32 dp) c4
             replace x0 := Kep.all g2 (a := ⟨w.heap.size + 1, 0, none⟩) (v := .int .u32 x.k) x0
             replace x1 := Kep.all g2 (a := ⟨w.heap.size + 1, 1, none⟩) (v := .int .i32 x.r) x1
             replace x2 := Kep.all g2 (a := ⟨w.heap.size + 1, 2, none⟩) (v := .int .i32 x.ax) x2
             replace x3 := Kep.all g2 (a := ⟨w.heap.size + 1, 3, none⟩) (v := .int .i32 x.ay) x3
             replace x4 := Kep.all g2 (a := ⟨w.heap.size + 1, 4, none⟩) (v := .int .i32 x.m) x4
             replace x5 := Kep.all g2 (a := ⟨w.heap.size + 1, 5, none⟩) (v := .int .i32 x.o) x5
             replace x6 := Kep.all g2 (a := ⟨w.heap.size + 1, 6, none⟩) (v := .int .i32 x.px) x6
             replace x7 := Kep.all g2 (a := ⟨w.heap.size + 1, 7, none⟩) (v := .int .i32 x.py) x7
             replace x8 := Kep.all g2 (a := ⟨w.heap.size + 1, 8, none⟩) (v := .int .i32 x.vx) x8
             replace x9 := Kep.all g2 (a := ⟨w.heap.size + 1, 9, none⟩) (v := .int .i32 x.vy) x9
             replace y0 := Kep.all g2 (a := ⟨w.heap.size + 1 + 1, 0, none⟩) (v := .int .u32 y.k) y0
             replace y1 := Kep.all g2 (a := ⟨w.heap.size + 1 + 1, 1, none⟩) (v := .int .i32 y.r) y1
             replace y2 := Kep.all g2 (a := ⟨w.heap.size + 1 + 1, 2, none⟩) (v := .int .i32 y.ax) y2
             replace y3 := Kep.all g2 (a := ⟨w.heap.size + 1 + 1, 3, none⟩) (v := .int .i32 y.ay) y3
             replace y4 := Kep.all g2 (a := ⟨w.heap.size + 1 + 1, 4, none⟩) (v := .int .i32 y.m) y4
             replace y5 := Kep.all g2 (a := ⟨w.heap.size + 1 + 1, 5, none⟩) (v := .int .i32 y.o) y5
             replace y6 := Kep.all g2 (a := ⟨w.heap.size + 1 + 1, 6, none⟩) (v := .int .i32 y.px) y6
             replace y7 := Kep.all g2 (a := ⟨w.heap.size + 1 + 1, 7, none⟩) (v := .int .i32 y.py) y7
             replace y8 := Kep.all g2 (a := ⟨w.heap.size + 1 + 1, 8, none⟩) (v := .int .i32 y.vx) y8
             replace y9 := Kep.all g2 (a := ⟨w.heap.size + 1 + 1, 9, none⟩) (v := .int .i32 y.vy) y9
             replace gg := kep_next gg g2
             have zc_w2 : w.heap.size < w2.heap.size := World.block_lt_of_cell? _ _ c0
             have zx_w2 : w.heap.size + 1 < w2.heap.size := World.block_lt_of_cell? _ _ x0
             have zy_w2 : w.heap.size + 1 + 1 < w2.heap.size := World.block_lt_of_cell? _ _ y0)
          | ((with_reducible refine (C1.out _).mono ?_); rintro e w3 ⟨rfl, g3⟩
             replace c0 := Kep.all g3 (a := ⟨w.heap.size, 0, none⟩) (v := .int .u32 lo) c0
             replace c1 := Kep.all g3 (a := ⟨w.heap.size, 1, none⟩) (v := .int .u32 hi) c1
             replace c2 := Kep.all g3 (a := ⟨w.heap.size, 2, none⟩) (v := .int .i32 nx) c2
             replace c3 := Kep.all g3 (a := ⟨w.heap.size, 3, none⟩) (v := .int .i32 ny) c3
             replace c4 := Kep.all g3 (a := ⟨w.heap.size, 4, none⟩) (v := .int .i32 dp) c4
             replace x0 := Kep.all g3 (a := ⟨w.heap.size + 1, 0, none⟩) (v := .int .u32 x.k) x0
             replace x1 := Kep.all g3 (a := ⟨w.heap.size + 1, 1, none⟩) (v := .int .i32 x.r) x1
             replace x2 := Kep.all g3 (a := ⟨w.heap.size + 1, 2, none⟩) (v := .int .i32 x.ax) x2
             replace x3 := Kep.all g3 (a := ⟨w.heap.size + 1, 3, none⟩) (v := .int .i32 x.ay) x3
             replace x4 := Kep.all g3 (a := ⟨w.heap.size + 1, 4, none⟩) (v := .int .i32 x.m) x4
             replace x5 := Kep.all g3 (a := ⟨w.heap.size + 1, 5, none⟩) (v := .int .i32 x.o) x5
             replace x6 := Kep.all g3 (a := ⟨w.heap.size + 1, 6, none⟩) (v := .int .i32 x.px) x6
             replace x7 := Kep.all g3 (a := ⟨w.heap.size + 1, 7, none⟩) (v := .int .i32 x.py) x7
             replace x8 := Kep.all g3 (a := ⟨w.heap.size + 1, 8, none⟩) (v := .int .i32 x.vx) x8
             replace x9 := Kep.all g3 (a := ⟨w.heap.size + 1, 9, none⟩) (v := .int .i32 x.vy) x9
             replace y0 := Kep.all g3 (a := ⟨w.heap.size + 1 + 1, 0, none⟩) (v := .int .u32 y.k) y0
             replace y1 := Kep.all g3 (a := ⟨w.heap.size + 1 + 1, 1, none⟩) (v := .int .i32 y.r) y1
             replace y2 := Kep.all g3 (a := ⟨w.heap.size + 1 + 1, 2, none⟩) (v := .int .i32 y.ax) y2
             replace y3 := Kep.all g3 (a := ⟨w.heap.size + 1 + 1, 3, none⟩) (v := .int .i32 y.ay) y3
             replace y4 := Kep.all g3 (a := ⟨w.heap.size + 1 + 1, 4, none⟩) (v := .int .i32 y.m) y4
             replace y5 := Kep.all g3 (a := ⟨w.heap.size + 1 + 1, 5, none⟩) (v := .int .i32 y.o) y5
             replace y6 := Kep.all g3 (a := ⟨w.heap.size + 1 + 1, 6, none⟩) (v := .int .i32 y.px) y6
             replace y7 := Kep.all g3 (a := ⟨w.heap.size + 1 + 1, 7, none⟩) (v := .int .i32 y.py) y7
             replace y8 := Kep.all g3 (a := ⟨w.heap.size + 1 + 1, 8, none⟩) (v := .int .i32 y.vx) y8
             replace y9 := Kep.all g3 (a := ⟨w.heap.size + 1 + 1, 9, none⟩) (v := .int .i32 y.vy) y9
             replace gg := kep_next gg g3
             have zc_w3 : w.heap.size < w3.heap.size := World.block_lt_of_cell? _ _ c0
             have zx_w3 : w.heap.size + 1 < w3.heap.size := World.block_lt_of_cell? _ _ x0
             have zy_w3 : w.heap.size + 1 + 1 < w3.heap.size := World.block_lt_of_cell? _ _ y0)
          | ((with_reducible refine (R1.out _).mono ?_); rintro e w4 ⟨rfl, g4⟩
             replace c0 := Kep.all g4 (a := ⟨w.heap.size, 0, none⟩) (v := .int .u32 lo) c0
             replace c1 := Kep.all g4 (a := ⟨w.heap.size, 1, none⟩) (v := .int .u32 hi) c1
             replace c2 := Kep.all g4 (a := ⟨w.heap.size, 2, none⟩) (v := .int .i32 nx) c2
             replace c3 := Kep.all g4 (a := ⟨w.heap.size, 3, none⟩) (v := .int .i32 ny) c3
             replace c4 := Kep.all g4 (a := ⟨w.heap.size, 4, none⟩) (v := .int .i32 dp) c4
             replace x0 := Kep.all g4 (a := ⟨w.heap.size + 1, 0, none⟩) (v := .int .u32 x.k) x0
             replace x1 := Kep.all g4 (a := ⟨w.heap.size + 1, 1, none⟩) (v := .int .i32 x.r) x1
             replace x2 := Kep.all g4 (a := ⟨w.heap.size + 1, 2, none⟩) (v := .int .i32 x.ax) x2
             replace x3 := Kep.all g4 (a := ⟨w.heap.size + 1, 3, none⟩) (v := .int .i32 x.ay) x3
             replace x4 := Kep.all g4 (a := ⟨w.heap.size + 1, 4, none⟩) (v := .int .i32 x.m) x4
             replace x5 := Kep.all g4 (a := ⟨w.heap.size + 1, 5, none⟩) (v := .int .i32 x.o) x5
             replace x6 := Kep.all g4 (a := ⟨w.heap.size + 1, 6, none⟩) (v := .int .i32 x.px) x6
             replace x7 := Kep.all g4 (a := ⟨w.heap.size + 1, 7, none⟩) (v := .int .i32 x.py) x7
             replace x8 := Kep.all g4 (a := ⟨w.heap.size + 1, 8, none⟩) (v := .int .i32 x.vx) x8
             replace x9 := Kep.all g4 (a := ⟨w.heap.size + 1, 9, none⟩) (v := .int .i32 x.vy) x9
             replace y0 := Kep.all g4 (a := ⟨w.heap.size + 1 + 1, 0, none⟩) (v := .int .u32 y.k) y0
             replace y1 := Kep.all g4 (a := ⟨w.heap.size + 1 + 1, 1, none⟩) (v := .int .i32 y.r) y1
             replace y2 := Kep.all g4 (a := ⟨w.heap.size + 1 + 1, 2, none⟩) (v := .int .i32 y.ax) y2
             replace y3 := Kep.all g4 (a := ⟨w.heap.size + 1 + 1, 3, none⟩) (v := .int .i32 y.ay) y3
             replace y4 := Kep.all g4 (a := ⟨w.heap.size + 1 + 1, 4, none⟩) (v := .int .i32 y.m) y4
             replace y5 := Kep.all g4 (a := ⟨w.heap.size + 1 + 1, 5, none⟩) (v := .int .i32 y.o) y5
             replace y6 := Kep.all g4 (a := ⟨w.heap.size + 1 + 1, 6, none⟩) (v := .int .i32 y.px) y6
             replace y7 := Kep.all g4 (a := ⟨w.heap.size + 1 + 1, 7, none⟩) (v := .int .i32 y.py) y7
             replace y8 := Kep.all g4 (a := ⟨w.heap.size + 1 + 1, 8, none⟩) (v := .int .i32 y.vx) y8
             replace y9 := Kep.all g4 (a := ⟨w.heap.size + 1 + 1, 9, none⟩) (v := .int .i32 y.vy) y9
             replace gg := kep_next gg g4
             have zc_w4 : w.heap.size < w4.heap.size := World.block_lt_of_cell? _ _ c0
             have zx_w4 : w.heap.size + 1 < w4.heap.size := World.block_lt_of_cell? _ _ x0
             have zy_w4 : w.heap.size + 1 + 1 < w4.heap.size := World.block_lt_of_cell? _ _ y0)
          | ((with_reducible refine (D1.out _).mono ?_); rintro e w5 ⟨rfl, g5⟩
             replace c0 := Kep.all g5 (a := ⟨w.heap.size, 0, none⟩) (v := .int .u32 lo) c0
             replace c1 := Kep.all g5 (a := ⟨w.heap.size, 1, none⟩) (v := .int .u32 hi) c1
             replace c2 := Kep.all g5 (a := ⟨w.heap.size, 2, none⟩) (v := .int .i32 nx) c2
             replace c3 := Kep.all g5 (a := ⟨w.heap.size, 3, none⟩) (v := .int .i32 ny) c3
             replace c4 := Kep.all g5 (a := ⟨w.heap.size, 4, none⟩) (v := .int .i32 dp) c4
             replace x0 := Kep.all g5 (a := ⟨w.heap.size + 1, 0, none⟩) (v := .int .u32 x.k) x0
             replace x1 := Kep.all g5 (a := ⟨w.heap.size + 1, 1, none⟩) (v := .int .i32 x.r) x1
             replace x2 := Kep.all g5 (a := ⟨w.heap.size + 1, 2, none⟩) (v := .int .i32 x.ax) x2
             replace x3 := Kep.all g5 (a := ⟨w.heap.size + 1, 3, none⟩) (v := .int .i32 x.ay) x3
             replace x4 := Kep.all g5 (a := ⟨w.heap.size + 1, 4, none⟩) (v := .int .i32 x.m) x4
             replace x5 := Kep.all g5 (a := ⟨w.heap.size + 1, 5, none⟩) (v := .int .i32 x.o) x5
             replace x6 := Kep.all g5 (a := ⟨w.heap.size + 1, 6, none⟩) (v := .int .i32 x.px) x6
             replace x7 := Kep.all g5 (a := ⟨w.heap.size + 1, 7, none⟩) (v := .int .i32 x.py) x7
             replace x8 := Kep.all g5 (a := ⟨w.heap.size + 1, 8, none⟩) (v := .int .i32 x.vx) x8
             replace x9 := Kep.all g5 (a := ⟨w.heap.size + 1, 9, none⟩) (v := .int .i32 x.vy) x9
             replace y0 := Kep.all g5 (a := ⟨w.heap.size + 1 + 1, 0, none⟩) (v := .int .u32 y.k) y0
             replace y1 := Kep.all g5 (a := ⟨w.heap.size + 1 + 1, 1, none⟩) (v := .int .i32 y.r) y1
             replace y2 := Kep.all g5 (a := ⟨w.heap.size + 1 + 1, 2, none⟩) (v := .int .i32 y.ax) y2
             replace y3 := Kep.all g5 (a := ⟨w.heap.size + 1 + 1, 3, none⟩) (v := .int .i32 y.ay) y3
             replace y4 := Kep.all g5 (a := ⟨w.heap.size + 1 + 1, 4, none⟩) (v := .int .i32 y.m) y4
             replace y5 := Kep.all g5 (a := ⟨w.heap.size + 1 + 1, 5, none⟩) (v := .int .i32 y.o) y5
             replace y6 := Kep.all g5 (a := ⟨w.heap.size + 1 + 1, 6, none⟩) (v := .int .i32 y.px) y6
             replace y7 := Kep.all g5 (a := ⟨w.heap.size + 1 + 1, 7, none⟩) (v := .int .i32 y.py) y7
             replace y8 := Kep.all g5 (a := ⟨w.heap.size + 1 + 1, 8, none⟩) (v := .int .i32 y.vx) y8
             replace y9 := Kep.all g5 (a := ⟨w.heap.size + 1 + 1, 9, none⟩) (v := .int .i32 y.vy) y9
             replace gg := kep_next gg g5
             have zc_w5 : w.heap.size < w5.heap.size := World.block_lt_of_cell? _ _ c0
             have zx_w5 : w.heap.size + 1 < w5.heap.size := World.block_lt_of_cell? _ _ x0
             have zy_w5 : w.heap.size + 1 + 1 < w5.heap.size := World.block_lt_of_cell? _ _ y0)
          | ((with_reducible refine (D2.out _).mono ?_); rintro e w6 ⟨rfl, g6⟩
             replace c0 := Kep.all g6 (a := ⟨w.heap.size, 0, none⟩) (v := .int .u32 lo) c0
             replace c1 := Kep.all g6 (a := ⟨w.heap.size, 1, none⟩) (v := .int .u32 hi) c1
             replace c2 := Kep.all g6 (a := ⟨w.heap.size, 2, none⟩) (v := .int .i32 nx) c2
             replace c3 := Kep.all g6 (a := ⟨w.heap.size, 3, none⟩) (v := .int .i32 ny) c3
             replace c4 := Kep.all g6 (a := ⟨w.heap.size, 4, none⟩) (v := .int .i32 dp) c4
             replace x0 := Kep.all g6 (a := ⟨w.heap.size + 1, 0, none⟩) (v := .int .u32 x.k) x0
             replace x1 := Kep.all g6 (a := ⟨w.heap.size + 1, 1, none⟩) (v := .int .i32 x.r) x1
             replace x2 := Kep.all g6 (a := ⟨w.heap.size + 1, 2, none⟩) (v := .int .i32 x.ax) x2
             replace x3 := Kep.all g6 (a := ⟨w.heap.size + 1, 3, none⟩) (v := .int .i32 x.ay) x3
             replace x4 := Kep.all g6 (a := ⟨w.heap.size + 1, 4, none⟩) (v := .int .i32 x.m) x4
             replace x5 := Kep.all g6 (a := ⟨w.heap.size + 1, 5, none⟩) (v := .int .i32 x.o) x5
             replace x6 := Kep.all g6 (a := ⟨w.heap.size + 1, 6, none⟩) (v := .int .i32 x.px) x6
             replace x7 := Kep.all g6 (a := ⟨w.heap.size + 1, 7, none⟩) (v := .int .i32 x.py) x7
             replace x8 := Kep.all g6 (a := ⟨w.heap.size + 1, 8, none⟩) (v := .int .i32 x.vx) x8
             replace x9 := Kep.all g6 (a := ⟨w.heap.size + 1, 9, none⟩) (v := .int .i32 x.vy) x9
             replace y0 := Kep.all g6 (a := ⟨w.heap.size + 1 + 1, 0, none⟩) (v := .int .u32 y.k) y0
             replace y1 := Kep.all g6 (a := ⟨w.heap.size + 1 + 1, 1, none⟩) (v := .int .i32 y.r) y1
             replace y2 := Kep.all g6 (a := ⟨w.heap.size + 1 + 1, 2, none⟩) (v := .int .i32 y.ax) y2
             replace y3 := Kep.all g6 (a := ⟨w.heap.size + 1 + 1, 3, none⟩) (v := .int .i32 y.ay) y3
             replace y4 := Kep.all g6 (a := ⟨w.heap.size + 1 + 1, 4, none⟩) (v := .int .i32 y.m) y4
             replace y5 := Kep.all g6 (a := ⟨w.heap.size + 1 + 1, 5, none⟩) (v := .int .i32 y.o) y5
             replace y6 := Kep.all g6 (a := ⟨w.heap.size + 1 + 1, 6, none⟩) (v := .int .i32 y.px) y6
             replace y7 := Kep.all g6 (a := ⟨w.heap.size + 1 + 1, 7, none⟩) (v := .int .i32 y.py) y7
             replace y8 := Kep.all g6 (a := ⟨w.heap.size + 1 + 1, 8, none⟩) (v := .int .i32 y.vx) y8
             replace y9 := Kep.all g6 (a := ⟨w.heap.size + 1 + 1, 9, none⟩) (v := .int .i32 y.vy) y9
             replace gg := kep_next gg g6
             have zc_w6 : w.heap.size < w6.heap.size := World.block_lt_of_cell? _ _ c0
             have zx_w6 : w.heap.size + 1 < w6.heap.size := World.block_lt_of_cell? _ _ x0
             have zy_w6 : w.heap.size + 1 + 1 < w6.heap.size := World.block_lt_of_cell? _ _ y0)
          | ((with_reducible refine (W1.out _).mono ?_); rintro e w' ⟨rfl, rfl⟩)
          | ((with_reducible refine (W2.out _).mono ?_); rintro e w' ⟨rfl, rfl⟩)
          | ((with_reducible refine (W3.out _).mono ?_); rintro e w' ⟨rfl, rfl⟩)
          | ((with_reducible refine (W4.out _).mono ?_); rintro e w' ⟨rfl, rfl⟩))
        go_ret
        exact ⟨rfl, gg⟩
    · have f2 : (x.m == 0) = false := by simp [ma]
      by_cases mb : y.m = 0
      · have f3 : (y.m == 0) = true := by simp [mb]
        obtain ⟨hr1, hr2⟩ := hr.out mb
        have f5 : (r != 0) = false := by simp [hr1]
        have f6 : (s != 0) = false := by simp [hr2]
        clear hr1 hr2
        clear ma mb hp hr hj
        go_enter Try.func4, Try.ntmps4
        go_wp2_with (first
          | ((with_reducible refine (AW.out _).mono ?_); rintro e w1 ⟨rfl, g1⟩
             have c0 := Kep.all g1 (a := ⟨w.heap.size, 0, none⟩) (v := .int .u32 lo) (by (repeat (first | rw [World.cell?_drew] | rw [World.cell?_alloc_past _ _ _ (by first | (simp; done) | (simp; omega))])); rw [World.cell?_alloc_at _ _ _ _ (by simp)]; rfl)
             have c1 := Kep.all g1 (a := ⟨w.heap.size, 1, none⟩) (v := .int .u32 hi) (by (repeat (first | rw [World.cell?_drew] | rw [World.cell?_alloc_past _ _ _ (by first | (simp; done) | (simp; omega))])); rw [World.cell?_alloc_at _ _ _ _ (by simp)]; rfl)
             have c2 := Kep.all g1 (a := ⟨w.heap.size, 2, none⟩) (v := .int .i32 nx) (by (repeat (first | rw [World.cell?_drew] | rw [World.cell?_alloc_past _ _ _ (by first | (simp; done) | (simp; omega))])); rw [World.cell?_alloc_at _ _ _ _ (by simp)]; rfl)
             have c3 := Kep.all g1 (a := ⟨w.heap.size, 3, none⟩) (v := .int .i32 ny) (by (repeat (first | rw [World.cell?_drew] | rw [World.cell?_alloc_past _ _ _ (by first | (simp; done) | (simp; omega))])); rw [World.cell?_alloc_at _ _ _ _ (by simp)]; rfl)
             have c4 := Kep.all g1 (a := ⟨w.heap.size, 4, none⟩) (v := .int .i32 dp) (by (repeat (first | rw [World.cell?_drew] | rw [World.cell?_alloc_past _ _ _ (by first | (simp; done) | (simp; omega))])); rw [World.cell?_alloc_at _ _ _ _ (by simp)]; rfl)
             have x0 := Kep.all g1 (a := ⟨w.heap.size + 1, 0, none⟩) (v := .int .u32 x.k) (by (repeat (first | rw [World.cell?_drew] | rw [World.cell?_alloc_past _ _ _ (by first | (simp; done) | (simp; omega))])); rw [World.cell?_alloc_at _ _ _ _ (by simp)]; rfl)
             have x1 := Kep.all g1 (a := ⟨w.heap.size + 1, 1, none⟩) (v := .int .i32 x.r) (by (repeat (first | rw [World.cell?_drew] | rw [World.cell?_alloc_past _ _ _ (by first | (simp; done) | (simp; omega))])); rw [World.cell?_alloc_at _ _ _ _ (by simp)]; rfl)
             have x2 := Kep.all g1 (a := ⟨w.heap.size + 1, 2, none⟩) (v := .int .i32 x.ax) (by (repeat (first | rw [World.cell?_drew] | rw [World.cell?_alloc_past _ _ _ (by first | (simp; done) | (simp; omega))])); rw [World.cell?_alloc_at _ _ _ _ (by simp)]; rfl)
             have x3 := Kep.all g1 (a := ⟨w.heap.size + 1, 3, none⟩) (v := .int .i32 x.ay) (by (repeat (first | rw [World.cell?_drew] | rw [World.cell?_alloc_past _ _ _ (by first | (simp; done) | (simp; omega))])); rw [World.cell?_alloc_at _ _ _ _ (by simp)]; rfl)
             have x4 := Kep.all g1 (a := ⟨w.heap.size + 1, 4, none⟩) (v := .int .i32 x.m) (by (repeat (first | rw [World.cell?_drew] | rw [World.cell?_alloc_past _ _ _ (by first | (simp; done) | (simp; omega))])); rw [World.cell?_alloc_at _ _ _ _ (by simp)]; rfl)
             have x5 := Kep.all g1 (a := ⟨w.heap.size + 1, 5, none⟩) (v := .int .i32 x.o) (by (repeat (first | rw [World.cell?_drew] | rw [World.cell?_alloc_past _ _ _ (by first | (simp; done) | (simp; omega))])); rw [World.cell?_alloc_at _ _ _ _ (by simp)]; rfl)
             have x6 := Kep.all g1 (a := ⟨w.heap.size + 1, 6, none⟩) (v := .int .i32 x.px) (by (repeat (first | rw [World.cell?_drew] | rw [World.cell?_alloc_past _ _ _ (by first | (simp; done) | (simp; omega))])); rw [World.cell?_alloc_at _ _ _ _ (by simp)]; rfl)
             have x7 := Kep.all g1 (a := ⟨w.heap.size + 1, 7, none⟩) (v := .int .i32 x.py) (by (repeat (first | rw [World.cell?_drew] | rw [World.cell?_alloc_past _ _ _ (by first | (simp; done) | (simp; omega))])); rw [World.cell?_alloc_at _ _ _ _ (by simp)]; rfl)
             have x8 := Kep.all g1 (a := ⟨w.heap.size + 1, 8, none⟩) (v := .int .i32 x.vx) (by (repeat (first | rw [World.cell?_drew] | rw [World.cell?_alloc_past _ _ _ (by first | (simp; done) | (simp; omega))])); rw [World.cell?_alloc_at _ _ _ _ (by simp)]; rfl)
             have x9 := Kep.all g1 (a := ⟨w.heap.size + 1, 9, none⟩) (v := .int .i32 x.vy) (by (repeat (first | rw [World.cell?_drew] | rw [World.cell?_alloc_past _ _ _ (by first | (simp; done) | (simp; omega))])); rw [World.cell?_alloc_at _ _ _ _ (by simp)]; rfl)
             have y0 := Kep.all g1 (a := ⟨w.heap.size + 1 + 1, 0, none⟩) (v := .int .u32 y.k) (by (repeat (first | rw [World.cell?_drew] | rw [World.cell?_alloc_past _ _ _ (by first | (simp; done) | (simp; omega))])); rw [World.cell?_alloc_at _ _ _ _ (by simp)]; rfl)
             have y1 := Kep.all g1 (a := ⟨w.heap.size + 1 + 1, 1, none⟩) (v := .int .i32 y.r) (by (repeat (first | rw [World.cell?_drew] | rw [World.cell?_alloc_past _ _ _ (by first | (simp; done) | (simp; omega))])); rw [World.cell?_alloc_at _ _ _ _ (by simp)]; rfl)
             have y2 := Kep.all g1 (a := ⟨w.heap.size + 1 + 1, 2, none⟩) (v := .int .i32 y.ax) (by (repeat (first | rw [World.cell?_drew] | rw [World.cell?_alloc_past _ _ _ (by first | (simp; done) | (simp; omega))])); rw [World.cell?_alloc_at _ _ _ _ (by simp)]; rfl)
             have y3 := Kep.all g1 (a := ⟨w.heap.size + 1 + 1, 3, none⟩) (v := .int .i32 y.ay) (by (repeat (first | rw [World.cell?_drew] | rw [World.cell?_alloc_past _ _ _ (by first | (simp; done) | (simp; omega))])); rw [World.cell?_alloc_at _ _ _ _ (by simp)]; rfl)
             have y4 := Kep.all g1 (a := ⟨w.heap.size + 1 + 1, 4, none⟩) (v := .int .i32 y.m) (by (repeat (first | rw [World.cell?_drew] | rw [World.cell?_alloc_past _ _ _ (by first | (simp; done) | (simp; omega))])); rw [World.cell?_alloc_at _ _ _ _ (by simp)]; rfl)
             have y5 := Kep.all g1 (a := ⟨w.heap.size + 1 + 1, 5, none⟩) (v := .int .i32 y.o) (by (repeat (first | rw [World.cell?_drew] | rw [World.cell?_alloc_past _ _ _ (by first | (simp; done) | (simp; omega))])); rw [World.cell?_alloc_at _ _ _ _ (by simp)]; rfl)
             have y6 := Kep.all g1 (a := ⟨w.heap.size + 1 + 1, 6, none⟩) (v := .int .i32 y.px) (by (repeat (first | rw [World.cell?_drew] | rw [World.cell?_alloc_past _ _ _ (by first | (simp; done) | (simp; omega))])); rw [World.cell?_alloc_at _ _ _ _ (by simp)]; rfl)
             have y7 := Kep.all g1 (a := ⟨w.heap.size + 1 + 1, 7, none⟩) (v := .int .i32 y.py) (by (repeat (first | rw [World.cell?_drew] | rw [World.cell?_alloc_past _ _ _ (by first | (simp; done) | (simp; omega))])); rw [World.cell?_alloc_at _ _ _ _ (by simp)]; rfl)
             have y8 := Kep.all g1 (a := ⟨w.heap.size + 1 + 1, 8, none⟩) (v := .int .i32 y.vx) (by (repeat (first | rw [World.cell?_drew] | rw [World.cell?_alloc_past _ _ _ (by first | (simp; done) | (simp; omega))])); rw [World.cell?_alloc_at _ _ _ _ (by simp)]; rfl)
             have y9 := Kep.all g1 (a := ⟨w.heap.size + 1 + 1, 9, none⟩) (v := .int .i32 y.vy) (by (repeat (first | rw [World.cell?_drew] | rw [World.cell?_alloc_past _ _ _ (by first | (simp; done) | (simp; omega))])); rw [World.cell?_alloc_at _ _ _ _ (by simp)]; rfl)
             have gg := kep_next (kep_more (kep_more (kep_more (Kep.refl _ _) _) _) _) g1
             have zc_w1 : w.heap.size < w1.heap.size := World.block_lt_of_cell? _ _ c0
             have zx_w1 : w.heap.size + 1 < w1.heap.size := World.block_lt_of_cell? _ _ x0
             have zy_w1 : w.heap.size + 1 + 1 < w1.heap.size := World.block_lt_of_cell? _ _ y0)
          | ((with_reducible refine (RR.out _).mono ?_); rintro e w2 ⟨rfl, g2⟩
             replace c0 := Kep.all g2 (a := ⟨w.heap.size, 0, none⟩) (v := .int .u32 lo) c0
             replace c1 := Kep.all g2 (a := ⟨w.heap.size, 1, none⟩) (v := .int .u32 hi) c1
             replace c2 := Kep.all g2 (a := ⟨w.heap.size, 2, none⟩) (v := .int .i32 nx) c2
             replace c3 := Kep.all g2 (a := ⟨w.heap.size, 3, none⟩) (v := .int .i32 ny) c3
             replace c4 := Kep.all g2 (a := ⟨w.heap.size, 4, none⟩) (v := .int .i32 dp) c4
             replace x0 := Kep.all g2 (a := ⟨w.heap.size + 1, 0, none⟩) (v := .int .u32 x.k) x0
             replace x1 := Kep.all g2 (a := ⟨w.heap.size + 1, 1, none⟩) (v := .int .i32 x.r) x1
             replace x2 := Kep.all g2 (a := ⟨w.heap.size + 1, 2, none⟩) (v := .int .i32 x.ax) x2
             replace x3 := Kep.all g2 (a := ⟨w.heap.size + 1, 3, none⟩) (v := .int .i32 x.ay) x3
             replace x4 := Kep.all g2 (a := ⟨w.heap.size + 1, 4, none⟩) (v := .int .i32 x.m) x4
             replace x5 := Kep.all g2 (a := ⟨w.heap.size + 1, 5, none⟩) (v := .int .i32 x.o) x5
             replace x6 := Kep.all g2 (a := ⟨w.heap.size + 1, 6, none⟩) (v := .int .i32 x.px) x6
             replace x7 := Kep.all g2 (a := ⟨w.heap.size + 1, 7, none⟩) (v := .int .i32 x.py) x7
             replace x8 := Kep.all g2 (a := ⟨w.heap.size + 1, 8, none⟩) (v := .int .i32 x.vx) x8
             replace x9 := Kep.all g2 (a := ⟨w.heap.size + 1, 9, none⟩) (v := .int .i32 x.vy) x9
             replace y0 := Kep.all g2 (a := ⟨w.heap.size + 1 + 1, 0, none⟩) (v := .int .u32 y.k) y0
             replace y1 := Kep.all g2 (a := ⟨w.heap.size + 1 + 1, 1, none⟩) (v := .int .i32 y.r) y1
             replace y2 := Kep.all g2 (a := ⟨w.heap.size + 1 + 1, 2, none⟩) (v := .int .i32 y.ax) y2
             replace y3 := Kep.all g2 (a := ⟨w.heap.size + 1 + 1, 3, none⟩) (v := .int .i32 y.ay) y3
             replace y4 := Kep.all g2 (a := ⟨w.heap.size + 1 + 1, 4, none⟩) (v := .int .i32 y.m) y4
             replace y5 := Kep.all g2 (a := ⟨w.heap.size + 1 + 1, 5, none⟩) (v := .int .i32 y.o) y5
             replace y6 := Kep.all g2 (a := ⟨w.heap.size + 1 + 1, 6, none⟩) (v := .int .i32 y.px) y6
             replace y7 := Kep.all g2 (a := ⟨w.heap.size + 1 + 1, 7, none⟩) (v := .int .i32 y.py) y7
             replace y8 := Kep.all g2 (a := ⟨w.heap.size + 1 + 1, 8, none⟩) (v := .int .i32 y.vx) y8
             replace y9 := Kep.all g2 (a := ⟨w.heap.size + 1 + 1, 9, none⟩) (v := .int .i32 y.vy) y9
             replace gg := kep_next gg g2
             have zc_w2 : w.heap.size < w2.heap.size := World.block_lt_of_cell? _ _ c0
             have zx_w2 : w.heap.size + 1 < w2.heap.size := World.block_lt_of_cell? _ _ x0
             have zy_w2 : w.heap.size + 1 + 1 < w2.heap.size := World.block_lt_of_cell? _ _ y0)
          | ((with_reducible refine (C1.out _).mono ?_); rintro e w3 ⟨rfl, g3⟩
             replace c0 := Kep.all g3 (a := ⟨w.heap.size, 0, none⟩) (v := .int .u32 lo) c0
             replace c1 := Kep.all g3 (a := ⟨w.heap.size, 1, none⟩) (v := .int .u32 hi) c1
             replace c2 := Kep.all g3 (a := ⟨w.heap.size, 2, none⟩) (v := .int .i32 nx) c2
             replace c3 := Kep.all g3 (a := ⟨w.heap.size, 3, none⟩) (v := .int .i32 ny) c3
             replace c4 := Kep.all g3 (a := ⟨w.heap.size, 4, none⟩) (v := .int .i32 dp) c4
             replace x0 := Kep.all g3 (a := ⟨w.heap.size + 1, 0, none⟩) (v := .int .u32 x.k) x0
             replace x1 := Kep.all g3 (a := ⟨w.heap.size + 1, 1, none⟩) (v := .int .i32 x.r) x1
             replace x2 := Kep.all g3 (a := ⟨w.heap.size + 1, 2, none⟩) (v := .int .i32 x.ax) x2
             replace x3 := Kep.all g3 (a := ⟨w.heap.size + 1, 3, none⟩) (v := .int .i32 x.ay) x3
             replace x4 := Kep.all g3 (a := ⟨w.heap.size + 1, 4, none⟩) (v := .int .i32 x.m) x4
             replace x5 := Kep.all g3 (a := ⟨w.heap.size + 1, 5, none⟩) (v := .int .i32 x.o) x5
             replace x6 := Kep.all g3 (a := ⟨w.heap.size + 1, 6, none⟩) (v := .int .i32 x.px) x6
             replace x7 := Kep.all g3 (a := ⟨w.heap.size + 1, 7, none⟩) (v := .int .i32 x.py) x7
             replace x8 := Kep.all g3 (a := ⟨w.heap.size + 1, 8, none⟩) (v := .int .i32 x.vx) x8
             replace x9 := Kep.all g3 (a := ⟨w.heap.size + 1, 9, none⟩) (v := .int .i32 x.vy) x9
             replace y0 := Kep.all g3 (a := ⟨w.heap.size + 1 + 1, 0, none⟩) (v := .int .u32 y.k) y0
             replace y1 := Kep.all g3 (a := ⟨w.heap.size + 1 + 1, 1, none⟩) (v := .int .i32 y.r) y1
             replace y2 := Kep.all g3 (a := ⟨w.heap.size + 1 + 1, 2, none⟩) (v := .int .i32 y.ax) y2
             replace y3 := Kep.all g3 (a := ⟨w.heap.size + 1 + 1, 3, none⟩) (v := .int .i32 y.ay) y3
             replace y4 := Kep.all g3 (a := ⟨w.heap.size + 1 + 1, 4, none⟩) (v := .int .i32 y.m) y4
             replace y5 := Kep.all g3 (a := ⟨w.heap.size + 1 + 1, 5, none⟩) (v := .int .i32 y.o) y5
             replace y6 := Kep.all g3 (a := ⟨w.heap.size + 1 + 1, 6, none⟩) (v := .int .i32 y.px) y6
             replace y7 := Kep.all g3 (a := ⟨w.heap.size + 1 + 1, 7, none⟩) (v := .int .i32 y.py) y7
             replace y8 := Kep.all g3 (a := ⟨w.heap.size + 1 + 1, 8, none⟩) (v := .int .i32 y.vx) y8
             replace y9 := Kep.all g3 (a := ⟨w.heap.size + 1 + 1, 9, none⟩) (v := .int .i32 y.vy) y9
             replace gg := kep_next gg g3
             have zc_w3 : w.heap.size < w3.heap.size := World.block_lt_of_cell? _ _ c0
             have zx_w3 : w.heap.size + 1 < w3.heap.size := World.block_lt_of_cell? _ _ x0
             have zy_w3 : w.heap.size + 1 + 1 < w3.heap.size := World.block_lt_of_cell? _ _ y0)
          | ((with_reducible refine (R1.out _).mono ?_); rintro e w4 ⟨rfl, g4⟩
             replace c0 := Kep.all g4 (a := ⟨w.heap.size, 0, none⟩) (v := .int .u32 lo) c0
             replace c1 := Kep.all g4 (a := ⟨w.heap.size, 1, none⟩) (v := .int .u32 hi) c1
             replace c2 := Kep.all g4 (a := ⟨w.heap.size, 2, none⟩) (v := .int .i32 nx) c2
             replace c3 := Kep.all g4 (a := ⟨w.heap.size, 3, none⟩) (v := .int .i32 ny) c3
             replace c4 := Kep.all g4 (a := ⟨w.heap.size, 4, none⟩) (v := .int .i32 dp) c4
             replace x0 := Kep.all g4 (a := ⟨w.heap.size + 1, 0, none⟩) (v := .int .u32 x.k) x0
             replace x1 := Kep.all g4 (a := ⟨w.heap.size + 1, 1, none⟩) (v := .int .i32 x.r) x1
             replace x2 := Kep.all g4 (a := ⟨w.heap.size + 1, 2, none⟩) (v := .int .i32 x.ax) x2
             replace x3 := Kep.all g4 (a := ⟨w.heap.size + 1, 3, none⟩) (v := .int .i32 x.ay) x3
             replace x4 := Kep.all g4 (a := ⟨w.heap.size + 1, 4, none⟩) (v := .int .i32 x.m) x4
             replace x5 := Kep.all g4 (a := ⟨w.heap.size + 1, 5, none⟩) (v := .int .i32 x.o) x5
             replace x6 := Kep.all g4 (a := ⟨w.heap.size + 1, 6, none⟩) (v := .int .i32 x.px) x6
             replace x7 := Kep.all g4 (a := ⟨w.heap.size + 1, 7, none⟩) (v := .int .i32 x.py) x7
             replace x8 := Kep.all g4 (a := ⟨w.heap.size + 1, 8, none⟩) (v := .int .i32 x.vx) x8
             replace x9 := Kep.all g4 (a := ⟨w.heap.size + 1, 9, none⟩) (v := .int .i32 x.vy) x9
             replace y0 := Kep.all g4 (a := ⟨w.heap.size + 1 + 1, 0, none⟩) (v := .int .u32 y.k) y0
             replace y1 := Kep.all g4 (a := ⟨w.heap.size + 1 + 1, 1, none⟩) (v := .int .i32 y.r) y1
             replace y2 := Kep.all g4 (a := ⟨w.heap.size + 1 + 1, 2, none⟩) (v := .int .i32 y.ax) y2
             replace y3 := Kep.all g4 (a := ⟨w.heap.size + 1 + 1, 3, none⟩) (v := .int .i32 y.ay) y3
             replace y4 := Kep.all g4 (a := ⟨w.heap.size + 1 + 1, 4, none⟩) (v := .int .i32 y.m) y4
             replace y5 := Kep.all g4 (a := ⟨w.heap.size + 1 + 1, 5, none⟩) (v := .int .i32 y.o) y5
             replace y6 := Kep.all g4 (a := ⟨w.heap.size + 1 + 1, 6, none⟩) (v := .int .i32 y.px) y6
             replace y7 := Kep.all g4 (a := ⟨w.heap.size + 1 + 1, 7, none⟩) (v := .int .i32 y.py) y7
             replace y8 := Kep.all g4 (a := ⟨w.heap.size + 1 + 1, 8, none⟩) (v := .int .i32 y.vx) y8
             replace y9 := Kep.all g4 (a := ⟨w.heap.size + 1 + 1, 9, none⟩) (v := .int .i32 y.vy) y9
             replace gg := kep_next gg g4
             have zc_w4 : w.heap.size < w4.heap.size := World.block_lt_of_cell? _ _ c0
             have zx_w4 : w.heap.size + 1 < w4.heap.size := World.block_lt_of_cell? _ _ x0
             have zy_w4 : w.heap.size + 1 + 1 < w4.heap.size := World.block_lt_of_cell? _ _ y0)
          | ((with_reducible refine (D1.out _).mono ?_); rintro e w5 ⟨rfl, g5⟩
             replace c0 := Kep.all g5 (a := ⟨w.heap.size, 0, none⟩) (v := .int .u32 lo) c0
             replace c1 := Kep.all g5 (a := ⟨w.heap.size, 1, none⟩) (v := .int .u32 hi) c1
             replace c2 := Kep.all g5 (a := ⟨w.heap.size, 2, none⟩) (v := .int .i32 nx) c2
             replace c3 := Kep.all g5 (a := ⟨w.heap.size, 3, none⟩) (v := .int .i32 ny) c3
             replace c4 := Kep.all g5 (a := ⟨w.heap.size, 4, none⟩) (v := .int .i32 dp) c4
             replace x0 := Kep.all g5 (a := ⟨w.heap.size + 1, 0, none⟩) (v := .int .u32 x.k) x0
             replace x1 := Kep.all g5 (a := ⟨w.heap.size + 1, 1, none⟩) (v := .int .i32 x.r) x1
             replace x2 := Kep.all g5 (a := ⟨w.heap.size + 1, 2, none⟩) (v := .int .i32 x.ax) x2
             replace x3 := Kep.all g5 (a := ⟨w.heap.size + 1, 3, none⟩) (v := .int .i32 x.ay) x3
             replace x4 := Kep.all g5 (a := ⟨w.heap.size + 1, 4, none⟩) (v := .int .i32 x.m) x4
             replace x5 := Kep.all g5 (a := ⟨w.heap.size + 1, 5, none⟩) (v := .int .i32 x.o) x5
             replace x6 := Kep.all g5 (a := ⟨w.heap.size + 1, 6, none⟩) (v := .int .i32 x.px) x6
             replace x7 := Kep.all g5 (a := ⟨w.heap.size + 1, 7, none⟩) (v := .int .i32 x.py) x7
             replace x8 := Kep.all g5 (a := ⟨w.heap.size + 1, 8, none⟩) (v := .int .i32 x.vx) x8
             replace x9 := Kep.all g5 (a := ⟨w.heap.size + 1, 9, none⟩) (v := .int .i32 x.vy) x9
             replace y0 := Kep.all g5 (a := ⟨w.heap.size + 1 + 1, 0, none⟩) (v := .int .u32 y.k) y0
             replace y1 := Kep.all g5 (a := ⟨w.heap.size + 1 + 1, 1, none⟩) (v := .int .i32 y.r) y1
             replace y2 := Kep.all g5 (a := ⟨w.heap.size + 1 + 1, 2, none⟩) (v := .int .i32 y.ax) y2
             replace y3 := Kep.all g5 (a := ⟨w.heap.size + 1 + 1, 3, none⟩) (v := .int .i32 y.ay) y3
             replace y4 := Kep.all g5 (a := ⟨w.heap.size + 1 + 1, 4, none⟩) (v := .int .i32 y.m) y4
             replace y5 := Kep.all g5 (a := ⟨w.heap.size + 1 + 1, 5, none⟩) (v := .int .i32 y.o) y5
             replace y6 := Kep.all g5 (a := ⟨w.heap.size + 1 + 1, 6, none⟩) (v := .int .i32 y.px) y6
             replace y7 := Kep.all g5 (a := ⟨w.heap.size + 1 + 1, 7, none⟩) (v := .int .i32 y.py) y7
             replace y8 := Kep.all g5 (a := ⟨w.heap.size + 1 + 1, 8, none⟩) (v := .int .i32 y.vx) y8
             replace y9 := Kep.all g5 (a := ⟨w.heap.size + 1 + 1, 9, none⟩) (v := .int .i32 y.vy) y9
             replace gg := kep_next gg g5
             have zc_w5 : w.heap.size < w5.heap.size := World.block_lt_of_cell? _ _ c0
             have zx_w5 : w.heap.size + 1 < w5.heap.size := World.block_lt_of_cell? _ _ x0
             have zy_w5 : w.heap.size + 1 + 1 < w5.heap.size := World.block_lt_of_cell? _ _ y0)
          | ((with_reducible refine (D2.out _).mono ?_); rintro e w6 ⟨rfl, g6⟩
             replace c0 := Kep.all g6 (a := ⟨w.heap.size, 0, none⟩) (v := .int .u32 lo) c0
             replace c1 := Kep.all g6 (a := ⟨w.heap.size, 1, none⟩) (v := .int .u32 hi) c1
             replace c2 := Kep.all g6 (a := ⟨w.heap.size, 2, none⟩) (v := .int .i32 nx) c2
             replace c3 := Kep.all g6 (a := ⟨w.heap.size, 3, none⟩) (v := .int .i32 ny) c3
             replace c4 := Kep.all g6 (a := ⟨w.heap.size, 4, none⟩) (v := .int .i32 dp) c4
             replace x0 := Kep.all g6 (a := ⟨w.heap.size + 1, 0, none⟩) (v := .int .u32 x.k) x0
             replace x1 := Kep.all g6 (a := ⟨w.heap.size + 1, 1, none⟩) (v := .int .i32 x.r) x1
             replace x2 := Kep.all g6 (a := ⟨w.heap.size + 1, 2, none⟩) (v := .int .i32 x.ax) x2
             replace x3 := Kep.all g6 (a := ⟨w.heap.size + 1, 3, none⟩) (v := .int .i32 x.ay) x3
             replace x4 := Kep.all g6 (a := ⟨w.heap.size + 1, 4, none⟩) (v := .int .i32 x.m) x4
             replace x5 := Kep.all g6 (a := ⟨w.heap.size + 1, 5, none⟩) (v := .int .i32 x.o) x5
             replace x6 := Kep.all g6 (a := ⟨w.heap.size + 1, 6, none⟩) (v := .int .i32 x.px) x6
             replace x7 := Kep.all g6 (a := ⟨w.heap.size + 1, 7, none⟩) (v := .int .i32 x.py) x7
             replace x8 := Kep.all g6 (a := ⟨w.heap.size + 1, 8, none⟩) (v := .int .i32 x.vx) x8
             replace x9 := Kep.all g6 (a := ⟨w.heap.size + 1, 9, none⟩) (v := .int .i32 x.vy) x9
             replace y0 := Kep.all g6 (a := ⟨w.heap.size + 1 + 1, 0, none⟩) (v := .int .u32 y.k) y0
             replace y1 := Kep.all g6 (a := ⟨w.heap.size + 1 + 1, 1, none⟩) (v := .int .i32 y.r) y1
             replace y2 := Kep.all g6 (a := ⟨w.heap.size + 1 + 1, 2, none⟩) (v := .int .i32 y.ax) y2
             replace y3 := Kep.all g6 (a := ⟨w.heap.size + 1 + 1, 3, none⟩) (v := .int .i32 y.ay) y3
             replace y4 := Kep.all g6 (a := ⟨w.heap.size + 1 + 1, 4, none⟩) (v := .int .i32 y.m) y4
             replace y5 := Kep.all g6 (a := ⟨w.heap.size + 1 + 1, 5, none⟩) (v := .int .i32 y.o) y5
             replace y6 := Kep.all g6 (a := ⟨w.heap.size + 1 + 1, 6, none⟩) (v := .int .i32 y.px) y6
             replace y7 := Kep.all g6 (a := ⟨w.heap.size + 1 + 1, 7, none⟩) (v := .int .i32 y.py) y7
             replace y8 := Kep.all g6 (a := ⟨w.heap.size + 1 + 1, 8, none⟩) (v := .int .i32 y.vx) y8
             replace y9 := Kep.all g6 (a := ⟨w.heap.size + 1 + 1, 9, none⟩) (v := .int .i32 y.vy) y9
             replace gg := kep_next gg g6
             have zc_w6 : w.heap.size < w6.heap.size := World.block_lt_of_cell? _ _ c0
             have zx_w6 : w.heap.size + 1 < w6.heap.size := World.block_lt_of_cell? _ _ x0
             have zy_w6 : w.heap.size + 1 + 1 < w6.heap.size := World.block_lt_of_cell? _ _ y0)
          | ((with_reducible refine (W1.out _).mono ?_); rintro e w' ⟨rfl, rfl⟩)
          | ((with_reducible refine (W2.out _).mono ?_); rintro e w' ⟨rfl, rfl⟩)
          | ((with_reducible refine (W3.out _).mono ?_); rintro e w' ⟨rfl, rfl⟩)
          | ((with_reducible refine (W4.out _).mono ?_); rintro e w' ⟨rfl, rfl⟩))
        go_ret
        exact ⟨rfl, gg⟩
      · have f3 : (y.m == 0) = false := by simp [mb]
        clear ma mb hp hr hj
        go_enter Try.func4, Try.ntmps4
        go_wp2_with (first
          | ((with_reducible refine (AW.out _).mono ?_); rintro e w1 ⟨rfl, g1⟩
             have c0 := Kep.all g1 (a := ⟨w.heap.size, 0, none⟩) (v := .int .u32 lo) (by (repeat (first | rw [World.cell?_drew] | rw [World.cell?_alloc_past _ _ _ (by first | (simp; done) | (simp; omega))])); rw [World.cell?_alloc_at _ _ _ _ (by simp)]; rfl)
             have c1 := Kep.all g1 (a := ⟨w.heap.size, 1, none⟩) (v := .int .u32 hi) (by (repeat (first | rw [World.cell?_drew] | rw [World.cell?_alloc_past _ _ _ (by first | (simp; done) | (simp; omega))])); rw [World.cell?_alloc_at _ _ _ _ (by simp)]; rfl)
             have c2 := Kep.all g1 (a := ⟨w.heap.size, 2, none⟩) (v := .int .i32 nx) (by (repeat (first | rw [World.cell?_drew] | rw [World.cell?_alloc_past _ _ _ (by first | (simp; done) | (simp; omega))])); rw [World.cell?_alloc_at _ _ _ _ (by simp)]; rfl)
             have c3 := Kep.all g1 (a := ⟨w.heap.size, 3, none⟩) (v := .int .i32 ny) (by (repeat (first | rw [World.cell?_drew] | rw [World.cell?_alloc_past _ _ _ (by first | (simp; done) | (simp; omega))])); rw [World.cell?_alloc_at _ _ _ _ (by simp)]; rfl)
             have c4 := Kep.all g1 (a := ⟨w.heap.size, 4, none⟩) (v := .int .i32 dp) (by (repeat (first | rw [World.cell?_drew] | rw [World.cell?_alloc_past _ _ _ (by first | (simp; done) | (simp; omega))])); rw [World.cell?_alloc_at _ _ _ _ (by simp)]; rfl)
             have x0 := Kep.all g1 (a := ⟨w.heap.size + 1, 0, none⟩) (v := .int .u32 x.k) (by (repeat (first | rw [World.cell?_drew] | rw [World.cell?_alloc_past _ _ _ (by first | (simp; done) | (simp; omega))])); rw [World.cell?_alloc_at _ _ _ _ (by simp)]; rfl)
             have x1 := Kep.all g1 (a := ⟨w.heap.size + 1, 1, none⟩) (v := .int .i32 x.r) (by (repeat (first | rw [World.cell?_drew] | rw [World.cell?_alloc_past _ _ _ (by first | (simp; done) | (simp; omega))])); rw [World.cell?_alloc_at _ _ _ _ (by simp)]; rfl)
             have x2 := Kep.all g1 (a := ⟨w.heap.size + 1, 2, none⟩) (v := .int .i32 x.ax) (by (repeat (first | rw [World.cell?_drew] | rw [World.cell?_alloc_past _ _ _ (by first | (simp; done) | (simp; omega))])); rw [World.cell?_alloc_at _ _ _ _ (by simp)]; rfl)
             have x3 := Kep.all g1 (a := ⟨w.heap.size + 1, 3, none⟩) (v := .int .i32 x.ay) (by (repeat (first | rw [World.cell?_drew] | rw [World.cell?_alloc_past _ _ _ (by first | (simp; done) | (simp; omega))])); rw [World.cell?_alloc_at _ _ _ _ (by simp)]; rfl)
             have x4 := Kep.all g1 (a := ⟨w.heap.size + 1, 4, none⟩) (v := .int .i32 x.m) (by (repeat (first | rw [World.cell?_drew] | rw [World.cell?_alloc_past _ _ _ (by first | (simp; done) | (simp; omega))])); rw [World.cell?_alloc_at _ _ _ _ (by simp)]; rfl)
             have x5 := Kep.all g1 (a := ⟨w.heap.size + 1, 5, none⟩) (v := .int .i32 x.o) (by (repeat (first | rw [World.cell?_drew] | rw [World.cell?_alloc_past _ _ _ (by first | (simp; done) | (simp; omega))])); rw [World.cell?_alloc_at _ _ _ _ (by simp)]; rfl)
             have x6 := Kep.all g1 (a := ⟨w.heap.size + 1, 6, none⟩) (v := .int .i32 x.px) (by (repeat (first | rw [World.cell?_drew] | rw [World.cell?_alloc_past _ _ _ (by first | (simp; done) | (simp; omega))])); rw [World.cell?_alloc_at _ _ _ _ (by simp)]; rfl)
             have x7 := Kep.all g1 (a := ⟨w.heap.size + 1, 7, none⟩) (v := .int .i32 x.py) (by (repeat (first | rw [World.cell?_drew] | rw [World.cell?_alloc_past _ _ _ (by first | (simp; done) | (simp; omega))])); rw [World.cell?_alloc_at _ _ _ _ (by simp)]; rfl)
             have x8 := Kep.all g1 (a := ⟨w.heap.size + 1, 8, none⟩) (v := .int .i32 x.vx) (by (repeat (first | rw [World.cell?_drew] | rw [World.cell?_alloc_past _ _ _ (by first | (simp; done) | (simp; omega))])); rw [World.cell?_alloc_at _ _ _ _ (by simp)]; rfl)
             have x9 := Kep.all g1 (a := ⟨w.heap.size + 1, 9, none⟩) (v := .int .i32 x.vy) (by (repeat (first | rw [World.cell?_drew] | rw [World.cell?_alloc_past _ _ _ (by first | (simp; done) | (simp; omega))])); rw [World.cell?_alloc_at _ _ _ _ (by simp)]; rfl)
             have y0 := Kep.all g1 (a := ⟨w.heap.size + 1 + 1, 0, none⟩) (v := .int .u32 y.k) (by (repeat (first | rw [World.cell?_drew] | rw [World.cell?_alloc_past _ _ _ (by first | (simp; done) | (simp; omega))])); rw [World.cell?_alloc_at _ _ _ _ (by simp)]; rfl)
             have y1 := Kep.all g1 (a := ⟨w.heap.size + 1 + 1, 1, none⟩) (v := .int .i32 y.r) (by (repeat (first | rw [World.cell?_drew] | rw [World.cell?_alloc_past _ _ _ (by first | (simp; done) | (simp; omega))])); rw [World.cell?_alloc_at _ _ _ _ (by simp)]; rfl)
             have y2 := Kep.all g1 (a := ⟨w.heap.size + 1 + 1, 2, none⟩) (v := .int .i32 y.ax) (by (repeat (first | rw [World.cell?_drew] | rw [World.cell?_alloc_past _ _ _ (by first | (simp; done) | (simp; omega))])); rw [World.cell?_alloc_at _ _ _ _ (by simp)]; rfl)
             have y3 := Kep.all g1 (a := ⟨w.heap.size + 1 + 1, 3, none⟩) (v := .int .i32 y.ay) (by (repeat (first | rw [World.cell?_drew] | rw [World.cell?_alloc_past _ _ _ (by first | (simp; done) | (simp; omega))])); rw [World.cell?_alloc_at _ _ _ _ (by simp)]; rfl)
             have y4 := Kep.all g1 (a := ⟨w.heap.size + 1 + 1, 4, none⟩) (v := .int .i32 y.m) (by (repeat (first | rw [World.cell?_drew] | rw [World.cell?_alloc_past _ _ _ (by first | (simp; done) | (simp; omega))])); rw [World.cell?_alloc_at _ _ _ _ (by simp)]; rfl)
             have y5 := Kep.all g1 (a := ⟨w.heap.size + 1 + 1, 5, none⟩) (v := .int .i32 y.o) (by (repeat (first | rw [World.cell?_drew] | rw [World.cell?_alloc_past _ _ _ (by first | (simp; done) | (simp; omega))])); rw [World.cell?_alloc_at _ _ _ _ (by simp)]; rfl)
             have y6 := Kep.all g1 (a := ⟨w.heap.size + 1 + 1, 6, none⟩) (v := .int .i32 y.px) (by (repeat (first | rw [World.cell?_drew] | rw [World.cell?_alloc_past _ _ _ (by first | (simp; done) | (simp; omega))])); rw [World.cell?_alloc_at _ _ _ _ (by simp)]; rfl)
             have y7 := Kep.all g1 (a := ⟨w.heap.size + 1 + 1, 7, none⟩) (v := .int .i32 y.py) (by (repeat (first | rw [World.cell?_drew] | rw [World.cell?_alloc_past _ _ _ (by first | (simp; done) | (simp; omega))])); rw [World.cell?_alloc_at _ _ _ _ (by simp)]; rfl)
             have y8 := Kep.all g1 (a := ⟨w.heap.size + 1 + 1, 8, none⟩) (v := .int .i32 y.vx) (by (repeat (first | rw [World.cell?_drew] | rw [World.cell?_alloc_past _ _ _ (by first | (simp; done) | (simp; omega))])); rw [World.cell?_alloc_at _ _ _ _ (by simp)]; rfl)
             have y9 := Kep.all g1 (a := ⟨w.heap.size + 1 + 1, 9, none⟩) (v := .int .i32 y.vy) (by (repeat (first | rw [World.cell?_drew] | rw [World.cell?_alloc_past _ _ _ (by first | (simp; done) | (simp; omega))])); rw [World.cell?_alloc_at _ _ _ _ (by simp)]; rfl)
             have gg := kep_next (kep_more (kep_more (kep_more (Kep.refl _ _) _) _) _) g1
             have zc_w1 : w.heap.size < w1.heap.size := World.block_lt_of_cell? _ _ c0
             have zx_w1 : w.heap.size + 1 < w1.heap.size := World.block_lt_of_cell? _ _ x0
             have zy_w1 : w.heap.size + 1 + 1 < w1.heap.size := World.block_lt_of_cell? _ _ y0)
          | ((with_reducible refine (RR.out _).mono ?_); rintro e w2 ⟨rfl, g2⟩
             replace c0 := Kep.all g2 (a := ⟨w.heap.size, 0, none⟩) (v := .int .u32 lo) c0
             replace c1 := Kep.all g2 (a := ⟨w.heap.size, 1, none⟩) (v := .int .u32 hi) c1
             replace c2 := Kep.all g2 (a := ⟨w.heap.size, 2, none⟩) (v := .int .i32 nx) c2
             replace c3 := Kep.all g2 (a := ⟨w.heap.size, 3, none⟩) (v := .int .i32 ny) c3
             replace c4 := Kep.all g2 (a := ⟨w.heap.size, 4, none⟩) (v := .int .i32 dp) c4
             replace x0 := Kep.all g2 (a := ⟨w.heap.size + 1, 0, none⟩) (v := .int .u32 x.k) x0
             replace x1 := Kep.all g2 (a := ⟨w.heap.size + 1, 1, none⟩) (v := .int .i32 x.r) x1
             replace x2 := Kep.all g2 (a := ⟨w.heap.size + 1, 2, none⟩) (v := .int .i32 x.ax) x2
             replace x3 := Kep.all g2 (a := ⟨w.heap.size + 1, 3, none⟩) (v := .int .i32 x.ay) x3
             replace x4 := Kep.all g2 (a := ⟨w.heap.size + 1, 4, none⟩) (v := .int .i32 x.m) x4
             replace x5 := Kep.all g2 (a := ⟨w.heap.size + 1, 5, none⟩) (v := .int .i32 x.o) x5
             replace x6 := Kep.all g2 (a := ⟨w.heap.size + 1, 6, none⟩) (v := .int .i32 x.px) x6
             replace x7 := Kep.all g2 (a := ⟨w.heap.size + 1, 7, none⟩) (v := .int .i32 x.py) x7
             replace x8 := Kep.all g2 (a := ⟨w.heap.size + 1, 8, none⟩) (v := .int .i32 x.vx) x8
             replace x9 := Kep.all g2 (a := ⟨w.heap.size + 1, 9, none⟩) (v := .int .i32 x.vy) x9
             replace y0 := Kep.all g2 (a := ⟨w.heap.size + 1 + 1, 0, none⟩) (v := .int .u32 y.k) y0
             replace y1 := Kep.all g2 (a := ⟨w.heap.size + 1 + 1, 1, none⟩) (v := .int .i32 y.r) y1
             replace y2 := Kep.all g2 (a := ⟨w.heap.size + 1 + 1, 2, none⟩) (v := .int .i32 y.ax) y2
             replace y3 := Kep.all g2 (a := ⟨w.heap.size + 1 + 1, 3, none⟩) (v := .int .i32 y.ay) y3
             replace y4 := Kep.all g2 (a := ⟨w.heap.size + 1 + 1, 4, none⟩) (v := .int .i32 y.m) y4
             replace y5 := Kep.all g2 (a := ⟨w.heap.size + 1 + 1, 5, none⟩) (v := .int .i32 y.o) y5
             replace y6 := Kep.all g2 (a := ⟨w.heap.size + 1 + 1, 6, none⟩) (v := .int .i32 y.px) y6
             replace y7 := Kep.all g2 (a := ⟨w.heap.size + 1 + 1, 7, none⟩) (v := .int .i32 y.py) y7
             replace y8 := Kep.all g2 (a := ⟨w.heap.size + 1 + 1, 8, none⟩) (v := .int .i32 y.vx) y8
             replace y9 := Kep.all g2 (a := ⟨w.heap.size + 1 + 1, 9, none⟩) (v := .int .i32 y.vy) y9
             replace gg := kep_next gg g2
             have zc_w2 : w.heap.size < w2.heap.size := World.block_lt_of_cell? _ _ c0
             have zx_w2 : w.heap.size + 1 < w2.heap.size := World.block_lt_of_cell? _ _ x0
             have zy_w2 : w.heap.size + 1 + 1 < w2.heap.size := World.block_lt_of_cell? _ _ y0)
          | ((with_reducible refine (C1.out _).mono ?_); rintro e w3 ⟨rfl, g3⟩
             replace c0 := Kep.all g3 (a := ⟨w.heap.size, 0, none⟩) (v := .int .u32 lo) c0
             replace c1 := Kep.all g3 (a := ⟨w.heap.size, 1, none⟩) (v := .int .u32 hi) c1
             replace c2 := Kep.all g3 (a := ⟨w.heap.size, 2, none⟩) (v := .int .i32 nx) c2
             replace c3 := Kep.all g3 (a := ⟨w.heap.size, 3, none⟩) (v := .int .i32 ny) c3
             replace c4 := Kep.all g3 (a := ⟨w.heap.size, 4, none⟩) (v := .int .i32 dp) c4
             replace x0 := Kep.all g3 (a := ⟨w.heap.size + 1, 0, none⟩) (v := .int .u32 x.k) x0
             replace x1 := Kep.all g3 (a := ⟨w.heap.size + 1, 1, none⟩) (v := .int .i32 x.r) x1
             replace x2 := Kep.all g3 (a := ⟨w.heap.size + 1, 2, none⟩) (v := .int .i32 x.ax) x2
             replace x3 := Kep.all g3 (a := ⟨w.heap.size + 1, 3, none⟩) (v := .int .i32 x.ay) x3
             replace x4 := Kep.all g3 (a := ⟨w.heap.size + 1, 4, none⟩) (v := .int .i32 x.m) x4
             replace x5 := Kep.all g3 (a := ⟨w.heap.size + 1, 5, none⟩) (v := .int .i32 x.o) x5
             replace x6 := Kep.all g3 (a := ⟨w.heap.size + 1, 6, none⟩) (v := .int .i32 x.px) x6
             replace x7 := Kep.all g3 (a := ⟨w.heap.size + 1, 7, none⟩) (v := .int .i32 x.py) x7
             replace x8 := Kep.all g3 (a := ⟨w.heap.size + 1, 8, none⟩) (v := .int .i32 x.vx) x8
             replace x9 := Kep.all g3 (a := ⟨w.heap.size + 1, 9, none⟩) (v := .int .i32 x.vy) x9
             replace y0 := Kep.all g3 (a := ⟨w.heap.size + 1 + 1, 0, none⟩) (v := .int .u32 y.k) y0
             replace y1 := Kep.all g3 (a := ⟨w.heap.size + 1 + 1, 1, none⟩) (v := .int .i32 y.r) y1
             replace y2 := Kep.all g3 (a := ⟨w.heap.size + 1 + 1, 2, none⟩) (v := .int .i32 y.ax) y2
             replace y3 := Kep.all g3 (a := ⟨w.heap.size + 1 + 1, 3, none⟩) (v := .int .i32 y.ay) y3
             replace y4 := Kep.all g3 (a := ⟨w.heap.size + 1 + 1, 4, none⟩) (v := .int .i32 y.m) y4
             replace y5 := Kep.all g3 (a := ⟨w.heap.size + 1 + 1, 5, none⟩) (v := .int .i32 y.o) y5
             replace y6 := Kep.all g3 (a := ⟨w.heap.size + 1 + 1, 6, none⟩) (v := .int .i32 y.px) y6
             replace y7 := Kep.all g3 (a := ⟨w.heap.size + 1 + 1, 7, none⟩) (v := .int .i32 y.py) y7
             replace y8 := Kep.all g3 (a := ⟨w.heap.size + 1 + 1, 8, none⟩) (v := .int .i32 y.vx) y8
             replace y9 := Kep.all g3 (a := ⟨w.heap.size + 1 + 1, 9, none⟩) (v := .int .i32 y.vy) y9
             replace gg := kep_next gg g3
             have zc_w3 : w.heap.size < w3.heap.size := World.block_lt_of_cell? _ _ c0
             have zx_w3 : w.heap.size + 1 < w3.heap.size := World.block_lt_of_cell? _ _ x0
             have zy_w3 : w.heap.size + 1 + 1 < w3.heap.size := World.block_lt_of_cell? _ _ y0)
          | ((with_reducible refine (R1.out _).mono ?_); rintro e w4 ⟨rfl, g4⟩
             replace c0 := Kep.all g4 (a := ⟨w.heap.size, 0, none⟩) (v := .int .u32 lo) c0
             replace c1 := Kep.all g4 (a := ⟨w.heap.size, 1, none⟩) (v := .int .u32 hi) c1
             replace c2 := Kep.all g4 (a := ⟨w.heap.size, 2, none⟩) (v := .int .i32 nx) c2
             replace c3 := Kep.all g4 (a := ⟨w.heap.size, 3, none⟩) (v := .int .i32 ny) c3
             replace c4 := Kep.all g4 (a := ⟨w.heap.size, 4, none⟩) (v := .int .i32 dp) c4
             replace x0 := Kep.all g4 (a := ⟨w.heap.size + 1, 0, none⟩) (v := .int .u32 x.k) x0
             replace x1 := Kep.all g4 (a := ⟨w.heap.size + 1, 1, none⟩) (v := .int .i32 x.r) x1
             replace x2 := Kep.all g4 (a := ⟨w.heap.size + 1, 2, none⟩) (v := .int .i32 x.ax) x2
             replace x3 := Kep.all g4 (a := ⟨w.heap.size + 1, 3, none⟩) (v := .int .i32 x.ay) x3
             replace x4 := Kep.all g4 (a := ⟨w.heap.size + 1, 4, none⟩) (v := .int .i32 x.m) x4
             replace x5 := Kep.all g4 (a := ⟨w.heap.size + 1, 5, none⟩) (v := .int .i32 x.o) x5
             replace x6 := Kep.all g4 (a := ⟨w.heap.size + 1, 6, none⟩) (v := .int .i32 x.px) x6
             replace x7 := Kep.all g4 (a := ⟨w.heap.size + 1, 7, none⟩) (v := .int .i32 x.py) x7
             replace x8 := Kep.all g4 (a := ⟨w.heap.size + 1, 8, none⟩) (v := .int .i32 x.vx) x8
             replace x9 := Kep.all g4 (a := ⟨w.heap.size + 1, 9, none⟩) (v := .int .i32 x.vy) x9
             replace y0 := Kep.all g4 (a := ⟨w.heap.size + 1 + 1, 0, none⟩) (v := .int .u32 y.k) y0
             replace y1 := Kep.all g4 (a := ⟨w.heap.size + 1 + 1, 1, none⟩) (v := .int .i32 y.r) y1
             replace y2 := Kep.all g4 (a := ⟨w.heap.size + 1 + 1, 2, none⟩) (v := .int .i32 y.ax) y2
             replace y3 := Kep.all g4 (a := ⟨w.heap.size + 1 + 1, 3, none⟩) (v := .int .i32 y.ay) y3
             replace y4 := Kep.all g4 (a := ⟨w.heap.size + 1 + 1, 4, none⟩) (v := .int .i32 y.m) y4
             replace y5 := Kep.all g4 (a := ⟨w.heap.size + 1 + 1, 5, none⟩) (v := .int .i32 y.o) y5
             replace y6 := Kep.all g4 (a := ⟨w.heap.size + 1 + 1, 6, none⟩) (v := .int .i32 y.px) y6
             replace y7 := Kep.all g4 (a := ⟨w.heap.size + 1 + 1, 7, none⟩) (v := .int .i32 y.py) y7
             replace y8 := Kep.all g4 (a := ⟨w.heap.size + 1 + 1, 8, none⟩) (v := .int .i32 y.vx) y8
             replace y9 := Kep.all g4 (a := ⟨w.heap.size + 1 + 1, 9, none⟩) (v := .int .i32 y.vy) y9
             replace gg := kep_next gg g4
             have zc_w4 : w.heap.size < w4.heap.size := World.block_lt_of_cell? _ _ c0
             have zx_w4 : w.heap.size + 1 < w4.heap.size := World.block_lt_of_cell? _ _ x0
             have zy_w4 : w.heap.size + 1 + 1 < w4.heap.size := World.block_lt_of_cell? _ _ y0)
          | ((with_reducible refine (D1.out _).mono ?_); rintro e w5 ⟨rfl, g5⟩
             replace c0 := Kep.all g5 (a := ⟨w.heap.size, 0, none⟩) (v := .int .u32 lo) c0
             replace c1 := Kep.all g5 (a := ⟨w.heap.size, 1, none⟩) (v := .int .u32 hi) c1
             replace c2 := Kep.all g5 (a := ⟨w.heap.size, 2, none⟩) (v := .int .i32 nx) c2
             replace c3 := Kep.all g5 (a := ⟨w.heap.size, 3, none⟩) (v := .int .i32 ny) c3
             replace c4 := Kep.all g5 (a := ⟨w.heap.size, 4, none⟩) (v := .int .i32 dp) c4
             replace x0 := Kep.all g5 (a := ⟨w.heap.size + 1, 0, none⟩) (v := .int .u32 x.k) x0
             replace x1 := Kep.all g5 (a := ⟨w.heap.size + 1, 1, none⟩) (v := .int .i32 x.r) x1
             replace x2 := Kep.all g5 (a := ⟨w.heap.size + 1, 2, none⟩) (v := .int .i32 x.ax) x2
             replace x3 := Kep.all g5 (a := ⟨w.heap.size + 1, 3, none⟩) (v := .int .i32 x.ay) x3
             replace x4 := Kep.all g5 (a := ⟨w.heap.size + 1, 4, none⟩) (v := .int .i32 x.m) x4
             replace x5 := Kep.all g5 (a := ⟨w.heap.size + 1, 5, none⟩) (v := .int .i32 x.o) x5
             replace x6 := Kep.all g5 (a := ⟨w.heap.size + 1, 6, none⟩) (v := .int .i32 x.px) x6
             replace x7 := Kep.all g5 (a := ⟨w.heap.size + 1, 7, none⟩) (v := .int .i32 x.py) x7
             replace x8 := Kep.all g5 (a := ⟨w.heap.size + 1, 8, none⟩) (v := .int .i32 x.vx) x8
             replace x9 := Kep.all g5 (a := ⟨w.heap.size + 1, 9, none⟩) (v := .int .i32 x.vy) x9
             replace y0 := Kep.all g5 (a := ⟨w.heap.size + 1 + 1, 0, none⟩) (v := .int .u32 y.k) y0
             replace y1 := Kep.all g5 (a := ⟨w.heap.size + 1 + 1, 1, none⟩) (v := .int .i32 y.r) y1
             replace y2 := Kep.all g5 (a := ⟨w.heap.size + 1 + 1, 2, none⟩) (v := .int .i32 y.ax) y2
             replace y3 := Kep.all g5 (a := ⟨w.heap.size + 1 + 1, 3, none⟩) (v := .int .i32 y.ay) y3
             replace y4 := Kep.all g5 (a := ⟨w.heap.size + 1 + 1, 4, none⟩) (v := .int .i32 y.m) y4
             replace y5 := Kep.all g5 (a := ⟨w.heap.size + 1 + 1, 5, none⟩) (v := .int .i32 y.o) y5
             replace y6 := Kep.all g5 (a := ⟨w.heap.size + 1 + 1, 6, none⟩) (v := .int .i32 y.px) y6
             replace y7 := Kep.all g5 (a := ⟨w.heap.size + 1 + 1, 7, none⟩) (v := .int .i32 y.py) y7
             replace y8 := Kep.all g5 (a := ⟨w.heap.size + 1 + 1, 8, none⟩) (v := .int .i32 y.vx) y8
             replace y9 := Kep.all g5 (a := ⟨w.heap.size + 1 + 1, 9, none⟩) (v := .int .i32 y.vy) y9
             replace gg := kep_next gg g5
             have zc_w5 : w.heap.size < w5.heap.size := World.block_lt_of_cell? _ _ c0
             have zx_w5 : w.heap.size + 1 < w5.heap.size := World.block_lt_of_cell? _ _ x0
             have zy_w5 : w.heap.size + 1 + 1 < w5.heap.size := World.block_lt_of_cell? _ _ y0)
          | ((with_reducible refine (D2.out _).mono ?_); rintro e w6 ⟨rfl, g6⟩
             replace c0 := Kep.all g6 (a := ⟨w.heap.size, 0, none⟩) (v := .int .u32 lo) c0
             replace c1 := Kep.all g6 (a := ⟨w.heap.size, 1, none⟩) (v := .int .u32 hi) c1
             replace c2 := Kep.all g6 (a := ⟨w.heap.size, 2, none⟩) (v := .int .i32 nx) c2
             replace c3 := Kep.all g6 (a := ⟨w.heap.size, 3, none⟩) (v := .int .i32 ny) c3
             replace c4 := Kep.all g6 (a := ⟨w.heap.size, 4, none⟩) (v := .int .i32 dp) c4
             replace x0 := Kep.all g6 (a := ⟨w.heap.size + 1, 0, none⟩) (v := .int .u32 x.k) x0
             replace x1 := Kep.all g6 (a := ⟨w.heap.size + 1, 1, none⟩) (v := .int .i32 x.r) x1
             replace x2 := Kep.all g6 (a := ⟨w.heap.size + 1, 2, none⟩) (v := .int .i32 x.ax) x2
             replace x3 := Kep.all g6 (a := ⟨w.heap.size + 1, 3, none⟩) (v := .int .i32 x.ay) x3
             replace x4 := Kep.all g6 (a := ⟨w.heap.size + 1, 4, none⟩) (v := .int .i32 x.m) x4
             replace x5 := Kep.all g6 (a := ⟨w.heap.size + 1, 5, none⟩) (v := .int .i32 x.o) x5
             replace x6 := Kep.all g6 (a := ⟨w.heap.size + 1, 6, none⟩) (v := .int .i32 x.px) x6
             replace x7 := Kep.all g6 (a := ⟨w.heap.size + 1, 7, none⟩) (v := .int .i32 x.py) x7
             replace x8 := Kep.all g6 (a := ⟨w.heap.size + 1, 8, none⟩) (v := .int .i32 x.vx) x8
             replace x9 := Kep.all g6 (a := ⟨w.heap.size + 1, 9, none⟩) (v := .int .i32 x.vy) x9
             replace y0 := Kep.all g6 (a := ⟨w.heap.size + 1 + 1, 0, none⟩) (v := .int .u32 y.k) y0
             replace y1 := Kep.all g6 (a := ⟨w.heap.size + 1 + 1, 1, none⟩) (v := .int .i32 y.r) y1
             replace y2 := Kep.all g6 (a := ⟨w.heap.size + 1 + 1, 2, none⟩) (v := .int .i32 y.ax) y2
             replace y3 := Kep.all g6 (a := ⟨w.heap.size + 1 + 1, 3, none⟩) (v := .int .i32 y.ay) y3
             replace y4 := Kep.all g6 (a := ⟨w.heap.size + 1 + 1, 4, none⟩) (v := .int .i32 y.m) y4
             replace y5 := Kep.all g6 (a := ⟨w.heap.size + 1 + 1, 5, none⟩) (v := .int .i32 y.o) y5
             replace y6 := Kep.all g6 (a := ⟨w.heap.size + 1 + 1, 6, none⟩) (v := .int .i32 y.px) y6
             replace y7 := Kep.all g6 (a := ⟨w.heap.size + 1 + 1, 7, none⟩) (v := .int .i32 y.py) y7
             replace y8 := Kep.all g6 (a := ⟨w.heap.size + 1 + 1, 8, none⟩) (v := .int .i32 y.vx) y8
             replace y9 := Kep.all g6 (a := ⟨w.heap.size + 1 + 1, 9, none⟩) (v := .int .i32 y.vy) y9
             replace gg := kep_next gg g6
             have zc_w6 : w.heap.size < w6.heap.size := World.block_lt_of_cell? _ _ c0
             have zx_w6 : w.heap.size + 1 < w6.heap.size := World.block_lt_of_cell? _ _ x0
             have zy_w6 : w.heap.size + 1 + 1 < w6.heap.size := World.block_lt_of_cell? _ _ y0)
          | ((with_reducible refine (W1.out _).mono ?_); rintro e w' ⟨rfl, rfl⟩)
          | ((with_reducible refine (W2.out _).mono ?_); rintro e w' ⟨rfl, rfl⟩)
          | ((with_reducible refine (W3.out _).mono ?_); rintro e w' ⟨rfl, rfl⟩)
          | ((with_reducible refine (W4.out _).mono ?_); rintro e w' ⟨rfl, rfl⟩))
        go_ret
        exact ⟨rfl, gg⟩
  · have f0 : decide (0 < j) = false := decide_eq_false cj
    clear cj
    by_cases ma : x.m = 0
    · have f2 : (x.m == 0) = true := by simp [ma]
      obtain ⟨hp1, hp2⟩ := hp.out ma
      have f7 : (p != 0) = false := by simp [hp1]
      have f8 : (q != 0) = false := by simp [hp2]
      clear hp1 hp2
      by_cases mb : y.m = 0
      · have f3 : (y.m == 0) = true := by simp [mb]
        obtain ⟨hr1, hr2⟩ := hr.out mb
        have f5 : (r != 0) = false := by simp [hr1]
        have f6 : (s != 0) = false := by simp [hr2]
        clear hr1 hr2
        clear ma mb hp hr hj
        go_enter Try.func4, Try.ntmps4
        go_wp2_with (first
          | ((with_reducible refine (AW.out _).mono ?_); rintro e w1 ⟨rfl, g1⟩
             have c0 := Kep.all g1 (a := ⟨w.heap.size, 0, none⟩) (v := .int .u32 lo) (by (repeat (first | rw [World.cell?_drew] | rw [World.cell?_alloc_past _ _ _ (by first | (simp; done) | (simp; omega))])); rw [World.cell?_alloc_at _ _ _ _ (by simp)]; rfl)
             have c1 := Kep.all g1 (a := ⟨w.heap.size, 1, none⟩) (v := .int .u32 hi) (by (repeat (first | rw [World.cell?_drew] | rw [World.cell?_alloc_past _ _ _ (by first | (simp; done) | (simp; omega))])); rw [World.cell?_alloc_at _ _ _ _ (by simp)]; rfl)
             have c2 := Kep.all g1 (a := ⟨w.heap.size, 2, none⟩) (v := .int .i32 nx) (by (repeat (first | rw [World.cell?_drew] | rw [World.cell?_alloc_past _ _ _ (by first | (simp; done) | (simp; omega))])); rw [World.cell?_alloc_at _ _ _ _ (by simp)]; rfl)
             have c3 := Kep.all g1 (a := ⟨w.heap.size, 3, none⟩) (v := .int .i32 ny) (by (repeat (first | rw [World.cell?_drew] | rw [World.cell?_alloc_past _ _ _ (by first | (simp; done) | (simp; omega))])); rw [World.cell?_alloc_at _ _ _ _ (by simp)]; rfl)
             have c4 := Kep.all g1 (a := ⟨w.heap.size, 4, none⟩) (v := .int .i32 dp) (by (repeat (first | rw [World.cell?_drew] | rw [World.cell?_alloc_past _ _ _ (by first | (simp; done) | (simp; omega))])); rw [World.cell?_alloc_at _ _ _ _ (by simp)]; rfl)
             have x0 := Kep.all g1 (a := ⟨w.heap.size + 1, 0, none⟩) (v := .int .u32 x.k) (by (repeat (first | rw [World.cell?_drew] | rw [World.cell?_alloc_past _ _ _ (by first | (simp; done) | (simp; omega))])); rw [World.cell?_alloc_at _ _ _ _ (by simp)]; rfl)
             have x1 := Kep.all g1 (a := ⟨w.heap.size + 1, 1, none⟩) (v := .int .i32 x.r) (by (repeat (first | rw [World.cell?_drew] | rw [World.cell?_alloc_past _ _ _ (by first | (simp; done) | (simp; omega))])); rw [World.cell?_alloc_at _ _ _ _ (by simp)]; rfl)
             have x2 := Kep.all g1 (a := ⟨w.heap.size + 1, 2, none⟩) (v := .int .i32 x.ax) (by (repeat (first | rw [World.cell?_drew] | rw [World.cell?_alloc_past _ _ _ (by first | (simp; done) | (simp; omega))])); rw [World.cell?_alloc_at _ _ _ _ (by simp)]; rfl)
             have x3 := Kep.all g1 (a := ⟨w.heap.size + 1, 3, none⟩) (v := .int .i32 x.ay) (by (repeat (first | rw [World.cell?_drew] | rw [World.cell?_alloc_past _ _ _ (by first | (simp; done) | (simp; omega))])); rw [World.cell?_alloc_at _ _ _ _ (by simp)]; rfl)
             have x4 := Kep.all g1 (a := ⟨w.heap.size + 1, 4, none⟩) (v := .int .i32 x.m) (by (repeat (first | rw [World.cell?_drew] | rw [World.cell?_alloc_past _ _ _ (by first | (simp; done) | (simp; omega))])); rw [World.cell?_alloc_at _ _ _ _ (by simp)]; rfl)
             have x5 := Kep.all g1 (a := ⟨w.heap.size + 1, 5, none⟩) (v := .int .i32 x.o) (by (repeat (first | rw [World.cell?_drew] | rw [World.cell?_alloc_past _ _ _ (by first | (simp; done) | (simp; omega))])); rw [World.cell?_alloc_at _ _ _ _ (by simp)]; rfl)
             have x6 := Kep.all g1 (a := ⟨w.heap.size + 1, 6, none⟩) (v := .int .i32 x.px) (by (repeat (first | rw [World.cell?_drew] | rw [World.cell?_alloc_past _ _ _ (by first | (simp; done) | (simp; omega))])); rw [World.cell?_alloc_at _ _ _ _ (by simp)]; rfl)
             have x7 := Kep.all g1 (a := ⟨w.heap.size + 1, 7, none⟩) (v := .int .i32 x.py) (by (repeat (first | rw [World.cell?_drew] | rw [World.cell?_alloc_past _ _ _ (by first | (simp; done) | (simp; omega))])); rw [World.cell?_alloc_at _ _ _ _ (by simp)]; rfl)
             have x8 := Kep.all g1 (a := ⟨w.heap.size + 1, 8, none⟩) (v := .int .i32 x.vx) (by (repeat (first | rw [World.cell?_drew] | rw [World.cell?_alloc_past _ _ _ (by first | (simp; done) | (simp; omega))])); rw [World.cell?_alloc_at _ _ _ _ (by simp)]; rfl)
             have x9 := Kep.all g1 (a := ⟨w.heap.size + 1, 9, none⟩) (v := .int .i32 x.vy) (by (repeat (first | rw [World.cell?_drew] | rw [World.cell?_alloc_past _ _ _ (by first | (simp; done) | (simp; omega))])); rw [World.cell?_alloc_at _ _ _ _ (by simp)]; rfl)
             have y0 := Kep.all g1 (a := ⟨w.heap.size + 1 + 1, 0, none⟩) (v := .int .u32 y.k) (by (repeat (first | rw [World.cell?_drew] | rw [World.cell?_alloc_past _ _ _ (by first | (simp; done) | (simp; omega))])); rw [World.cell?_alloc_at _ _ _ _ (by simp)]; rfl)
             have y1 := Kep.all g1 (a := ⟨w.heap.size + 1 + 1, 1, none⟩) (v := .int .i32 y.r) (by (repeat (first | rw [World.cell?_drew] | rw [World.cell?_alloc_past _ _ _ (by first | (simp; done) | (simp; omega))])); rw [World.cell?_alloc_at _ _ _ _ (by simp)]; rfl)
             have y2 := Kep.all g1 (a := ⟨w.heap.size + 1 + 1, 2, none⟩) (v := .int .i32 y.ax) (by (repeat (first | rw [World.cell?_drew] | rw [World.cell?_alloc_past _ _ _ (by first | (simp; done) | (simp; omega))])); rw [World.cell?_alloc_at _ _ _ _ (by simp)]; rfl)
             have y3 := Kep.all g1 (a := ⟨w.heap.size + 1 + 1, 3, none⟩) (v := .int .i32 y.ay) (by (repeat (first | rw [World.cell?_drew] | rw [World.cell?_alloc_past _ _ _ (by first | (simp; done) | (simp; omega))])); rw [World.cell?_alloc_at _ _ _ _ (by simp)]; rfl)
             have y4 := Kep.all g1 (a := ⟨w.heap.size + 1 + 1, 4, none⟩) (v := .int .i32 y.m) (by (repeat (first | rw [World.cell?_drew] | rw [World.cell?_alloc_past _ _ _ (by first | (simp; done) | (simp; omega))])); rw [World.cell?_alloc_at _ _ _ _ (by simp)]; rfl)
             have y5 := Kep.all g1 (a := ⟨w.heap.size + 1 + 1, 5, none⟩) (v := .int .i32 y.o) (by (repeat (first | rw [World.cell?_drew] | rw [World.cell?_alloc_past _ _ _ (by first | (simp; done) | (simp; omega))])); rw [World.cell?_alloc_at _ _ _ _ (by simp)]; rfl)
             have y6 := Kep.all g1 (a := ⟨w.heap.size + 1 + 1, 6, none⟩) (v := .int .i32 y.px) (by (repeat (first | rw [World.cell?_drew] | rw [World.cell?_alloc_past _ _ _ (by first | (simp; done) | (simp; omega))])); rw [World.cell?_alloc_at _ _ _ _ (by simp)]; rfl)
             have y7 := Kep.all g1 (a := ⟨w.heap.size + 1 + 1, 7, none⟩) (v := .int .i32 y.py) (by (repeat (first | rw [World.cell?_drew] | rw [World.cell?_alloc_past _ _ _ (by first | (simp; done) | (simp; omega))])); rw [World.cell?_alloc_at _ _ _ _ (by simp)]; rfl)
             have y8 := Kep.all g1 (a := ⟨w.heap.size + 1 + 1, 8, none⟩) (v := .int .i32 y.vx) (by (repeat (first | rw [World.cell?_drew] | rw [World.cell?_alloc_past _ _ _ (by first | (simp; done) | (simp; omega))])); rw [World.cell?_alloc_at _ _ _ _ (by simp)]; rfl)
             have y9 := Kep.all g1 (a := ⟨w.heap.size + 1 + 1, 9, none⟩) (v := .int .i32 y.vy) (by (repeat (first | rw [World.cell?_drew] | rw [World.cell?_alloc_past _ _ _ (by first | (simp; done) | (simp; omega))])); rw [World.cell?_alloc_at _ _ _ _ (by simp)]; rfl)
             have gg := kep_next (kep_more (kep_more (kep_more (Kep.refl _ _) _) _) _) g1
             have zc_w1 : w.heap.size < w1.heap.size := World.block_lt_of_cell? _ _ c0
             have zx_w1 : w.heap.size + 1 < w1.heap.size := World.block_lt_of_cell? _ _ x0
             have zy_w1 : w.heap.size + 1 + 1 < w1.heap.size := World.block_lt_of_cell? _ _ y0)
          | ((with_reducible refine (RR.out _).mono ?_); rintro e w2 ⟨rfl, g2⟩
             replace c0 := Kep.all g2 (a := ⟨w.heap.size, 0, none⟩) (v := .int .u32 lo) c0
             replace c1 := Kep.all g2 (a := ⟨w.heap.size, 1, none⟩) (v := .int .u32 hi) c1
             replace c2 := Kep.all g2 (a := ⟨w.heap.size, 2, none⟩) (v := .int .i32 nx) c2
             replace c3 := Kep.all g2 (a := ⟨w.heap.size, 3, none⟩) (v := .int .i32 ny) c3
             replace c4 := Kep.all g2 (a := ⟨w.heap.size, 4, none⟩) (v := .int .i32 dp) c4
             replace x0 := Kep.all g2 (a := ⟨w.heap.size + 1, 0, none⟩) (v := .int .u32 x.k) x0
             replace x1 := Kep.all g2 (a := ⟨w.heap.size + 1, 1, none⟩) (v := .int .i32 x.r) x1
             replace x2 := Kep.all g2 (a := ⟨w.heap.size + 1, 2, none⟩) (v := .int .i32 x.ax) x2
             replace x3 := Kep.all g2 (a := ⟨w.heap.size + 1, 3, none⟩) (v := .int .i32 x.ay) x3
             replace x4 := Kep.all g2 (a := ⟨w.heap.size + 1, 4, none⟩) (v := .int .i32 x.m) x4
             replace x5 := Kep.all g2 (a := ⟨w.heap.size + 1, 5, none⟩) (v := .int .i32 x.o) x5
             replace x6 := Kep.all g2 (a := ⟨w.heap.size + 1, 6, none⟩) (v := .int .i32 x.px) x6
             replace x7 := Kep.all g2 (a := ⟨w.heap.size + 1, 7, none⟩) (v := .int .i32 x.py) x7
             replace x8 := Kep.all g2 (a := ⟨w.heap.size + 1, 8, none⟩) (v := .int .i32 x.vx) x8
             replace x9 := Kep.all g2 (a := ⟨w.heap.size + 1, 9, none⟩) (v := .int .i32 x.vy) x9
             replace y0 := Kep.all g2 (a := ⟨w.heap.size + 1 + 1, 0, none⟩) (v := .int .u32 y.k) y0
             replace y1 := Kep.all g2 (a := ⟨w.heap.size + 1 + 1, 1, none⟩) (v := .int .i32 y.r) y1
             replace y2 := Kep.all g2 (a := ⟨w.heap.size + 1 + 1, 2, none⟩) (v := .int .i32 y.ax) y2
             replace y3 := Kep.all g2 (a := ⟨w.heap.size + 1 + 1, 3, none⟩) (v := .int .i32 y.ay) y3
             replace y4 := Kep.all g2 (a := ⟨w.heap.size + 1 + 1, 4, none⟩) (v := .int .i32 y.m) y4
             replace y5 := Kep.all g2 (a := ⟨w.heap.size + 1 + 1, 5, none⟩) (v := .int .i32 y.o) y5
             replace y6 := Kep.all g2 (a := ⟨w.heap.size + 1 + 1, 6, none⟩) (v := .int .i32 y.px) y6
             replace y7 := Kep.all g2 (a := ⟨w.heap.size + 1 + 1, 7, none⟩) (v := .int .i32 y.py) y7
             replace y8 := Kep.all g2 (a := ⟨w.heap.size + 1 + 1, 8, none⟩) (v := .int .i32 y.vx) y8
             replace y9 := Kep.all g2 (a := ⟨w.heap.size + 1 + 1, 9, none⟩) (v := .int .i32 y.vy) y9
             replace gg := kep_next gg g2
             have zc_w2 : w.heap.size < w2.heap.size := World.block_lt_of_cell? _ _ c0
             have zx_w2 : w.heap.size + 1 < w2.heap.size := World.block_lt_of_cell? _ _ x0
             have zy_w2 : w.heap.size + 1 + 1 < w2.heap.size := World.block_lt_of_cell? _ _ y0)
          | ((with_reducible refine (C1.out _).mono ?_); rintro e w3 ⟨rfl, g3⟩
             replace c0 := Kep.all g3 (a := ⟨w.heap.size, 0, none⟩) (v := .int .u32 lo) c0
             replace c1 := Kep.all g3 (a := ⟨w.heap.size, 1, none⟩) (v := .int .u32 hi) c1
             replace c2 := Kep.all g3 (a := ⟨w.heap.size, 2, none⟩) (v := .int .i32 nx) c2
             replace c3 := Kep.all g3 (a := ⟨w.heap.size, 3, none⟩) (v := .int .i32 ny) c3
             replace c4 := Kep.all g3 (a := ⟨w.heap.size, 4, none⟩) (v := .int .i32 dp) c4
             replace x0 := Kep.all g3 (a := ⟨w.heap.size + 1, 0, none⟩) (v := .int .u32 x.k) x0
             replace x1 := Kep.all g3 (a := ⟨w.heap.size + 1, 1, none⟩) (v := .int .i32 x.r) x1
             replace x2 := Kep.all g3 (a := ⟨w.heap.size + 1, 2, none⟩) (v := .int .i32 x.ax) x2
             replace x3 := Kep.all g3 (a := ⟨w.heap.size + 1, 3, none⟩) (v := .int .i32 x.ay) x3
             replace x4 := Kep.all g3 (a := ⟨w.heap.size + 1, 4, none⟩) (v := .int .i32 x.m) x4
             replace x5 := Kep.all g3 (a := ⟨w.heap.size + 1, 5, none⟩) (v := .int .i32 x.o) x5
             replace x6 := Kep.all g3 (a := ⟨w.heap.size + 1, 6, none⟩) (v := .int .i32 x.px) x6
             replace x7 := Kep.all g3 (a := ⟨w.heap.size + 1, 7, none⟩) (v := .int .i32 x.py) x7
             replace x8 := Kep.all g3 (a := ⟨w.heap.size + 1, 8, none⟩) (v := .int .i32 x.vx) x8
             replace x9 := Kep.all g3 (a := ⟨w.heap.size + 1, 9, none⟩) (v := .int .i32 x.vy) x9
             replace y0 := Kep.all g3 (a := ⟨w.heap.size + 1 + 1, 0, none⟩) (v := .int .u32 y.k) y0
             replace y1 := Kep.all g3 (a := ⟨w.heap.size + 1 + 1, 1, none⟩) (v := .int .i32 y.r) y1
             replace y2 := Kep.all g3 (a := ⟨w.heap.size + 1 + 1, 2, none⟩) (v := .int .i32 y.ax) y2
             replace y3 := Kep.all g3 (a := ⟨w.heap.size + 1 + 1, 3, none⟩) (v := .int .i32 y.ay) y3
             replace y4 := Kep.all g3 (a := ⟨w.heap.size + 1 + 1, 4, none⟩) (v := .int .i32 y.m) y4
             replace y5 := Kep.all g3 (a := ⟨w.heap.size + 1 + 1, 5, none⟩) (v := .int .i32 y.o) y5
             replace y6 := Kep.all g3 (a := ⟨w.heap.size + 1 + 1, 6, none⟩) (v := .int .i32 y.px) y6
             replace y7 := Kep.all g3 (a := ⟨w.heap.size + 1 + 1, 7, none⟩) (v := .int .i32 y.py) y7
             replace y8 := Kep.all g3 (a := ⟨w.heap.size + 1 + 1, 8, none⟩) (v := .int .i32 y.vx) y8
             replace y9 := Kep.all g3 (a := ⟨w.heap.size + 1 + 1, 9, none⟩) (v := .int .i32 y.vy) y9
             replace gg := kep_next gg g3
             have zc_w3 : w.heap.size < w3.heap.size := World.block_lt_of_cell? _ _ c0
             have zx_w3 : w.heap.size + 1 < w3.heap.size := World.block_lt_of_cell? _ _ x0
             have zy_w3 : w.heap.size + 1 + 1 < w3.heap.size := World.block_lt_of_cell? _ _ y0)
          | ((with_reducible refine (D1.out _).mono ?_); rintro e w5 ⟨rfl, g5⟩
             replace c0 := Kep.all g5 (a := ⟨w.heap.size, 0, none⟩) (v := .int .u32 lo) c0
             replace c1 := Kep.all g5 (a := ⟨w.heap.size, 1, none⟩) (v := .int .u32 hi) c1
             replace c2 := Kep.all g5 (a := ⟨w.heap.size, 2, none⟩) (v := .int .i32 nx) c2
             replace c3 := Kep.all g5 (a := ⟨w.heap.size, 3, none⟩) (v := .int .i32 ny) c3
             replace c4 := Kep.all g5 (a := ⟨w.heap.size, 4, none⟩) (v := .int .i32 dp) c4
             replace x0 := Kep.all g5 (a := ⟨w.heap.size + 1, 0, none⟩) (v := .int .u32 x.k) x0
             replace x1 := Kep.all g5 (a := ⟨w.heap.size + 1, 1, none⟩) (v := .int .i32 x.r) x1
             replace x2 := Kep.all g5 (a := ⟨w.heap.size + 1, 2, none⟩) (v := .int .i32 x.ax) x2
             replace x3 := Kep.all g5 (a := ⟨w.heap.size + 1, 3, none⟩) (v := .int .i32 x.ay) x3
             replace x4 := Kep.all g5 (a := ⟨w.heap.size + 1, 4, none⟩) (v := .int .i32 x.m) x4
             replace x5 := Kep.all g5 (a := ⟨w.heap.size + 1, 5, none⟩) (v := .int .i32 x.o) x5
             replace x6 := Kep.all g5 (a := ⟨w.heap.size + 1, 6, none⟩) (v := .int .i32 x.px) x6
             replace x7 := Kep.all g5 (a := ⟨w.heap.size + 1, 7, none⟩) (v := .int .i32 x.py) x7
             replace x8 := Kep.all g5 (a := ⟨w.heap.size + 1, 8, none⟩) (v := .int .i32 x.vx) x8
             replace x9 := Kep.all g5 (a := ⟨w.heap.size + 1, 9, none⟩) (v := .int .i32 x.vy) x9
             replace y0 := Kep.all g5 (a := ⟨w.heap.size + 1 + 1, 0, none⟩) (v := .int .u32 y.k) y0
             replace y1 := Kep.all g5 (a := ⟨w.heap.size + 1 + 1, 1, none⟩) (v := .int .i32 y.r) y1
             replace y2 := Kep.all g5 (a := ⟨w.heap.size + 1 + 1, 2, none⟩) (v := .int .i32 y.ax) y2
             replace y3 := Kep.all g5 (a := ⟨w.heap.size + 1 + 1, 3, none⟩) (v := .int .i32 y.ay) y3
             replace y4 := Kep.all g5 (a := ⟨w.heap.size + 1 + 1, 4, none⟩) (v := .int .i32 y.m) y4
             replace y5 := Kep.all g5 (a := ⟨w.heap.size + 1 + 1, 5, none⟩) (v := .int .i32 y.o) y5
             replace y6 := Kep.all g5 (a := ⟨w.heap.size + 1 + 1, 6, none⟩) (v := .int .i32 y.px) y6
             replace y7 := Kep.all g5 (a := ⟨w.heap.size + 1 + 1, 7, none⟩) (v := .int .i32 y.py) y7
             replace y8 := Kep.all g5 (a := ⟨w.heap.size + 1 + 1, 8, none⟩) (v := .int .i32 y.vx) y8
             replace y9 := Kep.all g5 (a := ⟨w.heap.size + 1 + 1, 9, none⟩) (v := .int .i32 y.vy) y9
             replace gg := kep_next gg g5
             have zc_w5 : w.heap.size < w5.heap.size := World.block_lt_of_cell? _ _ c0
             have zx_w5 : w.heap.size + 1 < w5.heap.size := World.block_lt_of_cell? _ _ x0
             have zy_w5 : w.heap.size + 1 + 1 < w5.heap.size := World.block_lt_of_cell? _ _ y0)
          | ((with_reducible refine (D2.out _).mono ?_); rintro e w6 ⟨rfl, g6⟩
             replace c0 := Kep.all g6 (a := ⟨w.heap.size, 0, none⟩) (v := .int .u32 lo) c0
             replace c1 := Kep.all g6 (a := ⟨w.heap.size, 1, none⟩) (v := .int .u32 hi) c1
             replace c2 := Kep.all g6 (a := ⟨w.heap.size, 2, none⟩) (v := .int .i32 nx) c2
             replace c3 := Kep.all g6 (a := ⟨w.heap.size, 3, none⟩) (v := .int .i32 ny) c3
             replace c4 := Kep.all g6 (a := ⟨w.heap.size, 4, none⟩) (v := .int .i32 dp) c4
             replace x0 := Kep.all g6 (a := ⟨w.heap.size + 1, 0, none⟩) (v := .int .u32 x.k) x0
             replace x1 := Kep.all g6 (a := ⟨w.heap.size + 1, 1, none⟩) (v := .int .i32 x.r) x1
             replace x2 := Kep.all g6 (a := ⟨w.heap.size + 1, 2, none⟩) (v := .int .i32 x.ax) x2
             replace x3 := Kep.all g6 (a := ⟨w.heap.size + 1, 3, none⟩) (v := .int .i32 x.ay) x3
             replace x4 := Kep.all g6 (a := ⟨w.heap.size + 1, 4, none⟩) (v := .int .i32 x.m) x4
             replace x5 := Kep.all g6 (a := ⟨w.heap.size + 1, 5, none⟩) (v := .int .i32 x.o) x5
             replace x6 := Kep.all g6 (a := ⟨w.heap.size + 1, 6, none⟩) (v := .int .i32 x.px) x6
             replace x7 := Kep.all g6 (a := ⟨w.heap.size + 1, 7, none⟩) (v := .int .i32 x.py) x7
             replace x8 := Kep.all g6 (a := ⟨w.heap.size + 1, 8, none⟩) (v := .int .i32 x.vx) x8
             replace x9 := Kep.all g6 (a := ⟨w.heap.size + 1, 9, none⟩) (v := .int .i32 x.vy) x9
             replace y0 := Kep.all g6 (a := ⟨w.heap.size + 1 + 1, 0, none⟩) (v := .int .u32 y.k) y0
             replace y1 := Kep.all g6 (a := ⟨w.heap.size + 1 + 1, 1, none⟩) (v := .int .i32 y.r) y1
             replace y2 := Kep.all g6 (a := ⟨w.heap.size + 1 + 1, 2, none⟩) (v := .int .i32 y.ax) y2
             replace y3 := Kep.all g6 (a := ⟨w.heap.size + 1 + 1, 3, none⟩) (v := .int .i32 y.ay) y3
             replace y4 := Kep.all g6 (a := ⟨w.heap.size + 1 + 1, 4, none⟩) (v := .int .i32 y.m) y4
             replace y5 := Kep.all g6 (a := ⟨w.heap.size + 1 + 1, 5, none⟩) (v := .int .i32 y.o) y5
             replace y6 := Kep.all g6 (a := ⟨w.heap.size + 1 + 1, 6, none⟩) (v := .int .i32 y.px) y6
             replace y7 := Kep.all g6 (a := ⟨w.heap.size + 1 + 1, 7, none⟩) (v := .int .i32 y.py) y7
             replace y8 := Kep.all g6 (a := ⟨w.heap.size + 1 + 1, 8, none⟩) (v := .int .i32 y.vx) y8
             replace y9 := Kep.all g6 (a := ⟨w.heap.size + 1 + 1, 9, none⟩) (v := .int .i32 y.vy) y9
             replace gg := kep_next gg g6
             have zc_w6 : w.heap.size < w6.heap.size := World.block_lt_of_cell? _ _ c0
             have zx_w6 : w.heap.size + 1 < w6.heap.size := World.block_lt_of_cell? _ _ x0
             have zy_w6 : w.heap.size + 1 + 1 < w6.heap.size := World.block_lt_of_cell? _ _ y0)
          | ((with_reducible refine (W1.out _).mono ?_); rintro e w' ⟨rfl, rfl⟩)
          | ((with_reducible refine (W2.out _).mono ?_); rintro e w' ⟨rfl, rfl⟩)
          | ((with_reducible refine (W3.out _).mono ?_); rintro e w' ⟨rfl, rfl⟩)
          | ((with_reducible refine (W4.out _).mono ?_); rintro e w' ⟨rfl, rfl⟩))
        go_ret
        exact ⟨rfl, gg⟩
      · have f3 : (y.m == 0) = false := by simp [mb]
        clear ma mb hp hr hj
        go_enter Try.func4, Try.ntmps4
        go_wp2_with (first
          | ((with_reducible refine (AW.out _).mono ?_); rintro e w1 ⟨rfl, g1⟩
             have c0 := Kep.all g1 (a := ⟨w.heap.size, 0, none⟩) (v := .int .u32 lo) (by (repeat (first | rw [World.cell?_drew] | rw [World.cell?_alloc_past _ _ _ (by first | (simp; done) | (simp; omega))])); rw [World.cell?_alloc_at _ _ _ _ (by simp)]; rfl)
             have c1 := Kep.all g1 (a := ⟨w.heap.size, 1, none⟩) (v := .int .u32 hi) (by (repeat (first | rw [World.cell?_drew] | rw [World.cell?_alloc_past _ _ _ (by first | (simp; done) | (simp; omega))])); rw [World.cell?_alloc_at _ _ _ _ (by simp)]; rfl)
             have c2 := Kep.all g1 (a := ⟨w.heap.size, 2, none⟩) (v := .int .i32 nx) (by (repeat (first | rw [World.cell?_drew] | rw [World.cell?_alloc_past _ _ _ (by first | (simp; done) | (simp; omega))])); rw [World.cell?_alloc_at _ _ _ _ (by simp)]; rfl)
             have c3 := Kep.all g1 (a := ⟨w.heap.size, 3, none⟩) (v := .int .i32 ny) (by (repeat (first | rw [World.cell?_drew] | rw [World.cell?_alloc_past _ _ _ (by first | (simp; done) | (simp; omega))])); rw [World.cell?_alloc_at _ _ _ _ (by simp)]; rfl)
             have c4 := Kep.all g1 (a := ⟨w.heap.size, 4, none⟩) (v := .int .i32 dp) (by (repeat (first | rw [World.cell?_drew] | rw [World.cell?_alloc_past _ _ _ (by first | (simp; done) | (simp; omega))])); rw [World.cell?_alloc_at _ _ _ _ (by simp)]; rfl)
             have x0 := Kep.all g1 (a := ⟨w.heap.size + 1, 0, none⟩) (v := .int .u32 x.k) (by (repeat (first | rw [World.cell?_drew] | rw [World.cell?_alloc_past _ _ _ (by first | (simp; done) | (simp; omega))])); rw [World.cell?_alloc_at _ _ _ _ (by simp)]; rfl)
             have x1 := Kep.all g1 (a := ⟨w.heap.size + 1, 1, none⟩) (v := .int .i32 x.r) (by (repeat (first | rw [World.cell?_drew] | rw [World.cell?_alloc_past _ _ _ (by first | (simp; done) | (simp; omega))])); rw [World.cell?_alloc_at _ _ _ _ (by simp)]; rfl)
             have x2 := Kep.all g1 (a := ⟨w.heap.size + 1, 2, none⟩) (v := .int .i32 x.ax) (by (repeat (first | rw [World.cell?_drew] | rw [World.cell?_alloc_past _ _ _ (by first | (simp; done) | (simp; omega))])); rw [World.cell?_alloc_at _ _ _ _ (by simp)]; rfl)
             have x3 := Kep.all g1 (a := ⟨w.heap.size + 1, 3, none⟩) (v := .int .i32 x.ay) (by (repeat (first | rw [World.cell?_drew] | rw [World.cell?_alloc_past _ _ _ (by first | (simp; done) | (simp; omega))])); rw [World.cell?_alloc_at _ _ _ _ (by simp)]; rfl)
             have x4 := Kep.all g1 (a := ⟨w.heap.size + 1, 4, none⟩) (v := .int .i32 x.m) (by (repeat (first | rw [World.cell?_drew] | rw [World.cell?_alloc_past _ _ _ (by first | (simp; done) | (simp; omega))])); rw [World.cell?_alloc_at _ _ _ _ (by simp)]; rfl)
             have x5 := Kep.all g1 (a := ⟨w.heap.size + 1, 5, none⟩) (v := .int .i32 x.o) (by (repeat (first | rw [World.cell?_drew] | rw [World.cell?_alloc_past _ _ _ (by first | (simp; done) | (simp; omega))])); rw [World.cell?_alloc_at _ _ _ _ (by simp)]; rfl)
             have x6 := Kep.all g1 (a := ⟨w.heap.size + 1, 6, none⟩) (v := .int .i32 x.px) (by (repeat (first | rw [World.cell?_drew] | rw [World.cell?_alloc_past _ _ _ (by first | (simp; done) | (simp; omega))])); rw [World.cell?_alloc_at _ _ _ _ (by simp)]; rfl)
             have x7 := Kep.all g1 (a := ⟨w.heap.size + 1, 7, none⟩) (v := .int .i32 x.py) (by (repeat (first | rw [World.cell?_drew] | rw [World.cell?_alloc_past _ _ _ (by first | (simp; done) | (simp; omega))])); rw [World.cell?_alloc_at _ _ _ _ (by simp)]; rfl)
             have x8 := Kep.all g1 (a := ⟨w.heap.size + 1, 8, none⟩) (v := .int .i32 x.vx) (by (repeat (first | rw [World.cell?_drew] | rw [World.cell?_alloc_past _ _ _ (by first | (simp; done) | (simp; omega))])); rw [World.cell?_alloc_at _ _ _ _ (by simp)]; rfl)
             have x9 := Kep.all g1 (a := ⟨w.heap.size + 1, 9, none⟩) (v := .int .i32 x.vy) (by (repeat (first | rw [World.cell?_drew] | rw [World.cell?_alloc_past _ _ _ (by first | (simp; done) | (simp; omega))])); rw [World.cell?_alloc_at _ _ _ _ (by simp)]; rfl)
             have y0 := Kep.all g1 (a := ⟨w.heap.size + 1 + 1, 0, none⟩) (v := .int .u32 y.k) (by (repeat (first | rw [World.cell?_drew] | rw [World.cell?_alloc_past _ _ _ (by first | (simp; done) | (simp; omega))])); rw [World.cell?_alloc_at _ _ _ _ (by simp)]; rfl)
             have y1 := Kep.all g1 (a := ⟨w.heap.size + 1 + 1, 1, none⟩) (v := .int .i32 y.r) (by (repeat (first | rw [World.cell?_drew] | rw [World.cell?_alloc_past _ _ _ (by first | (simp; done) | (simp; omega))])); rw [World.cell?_alloc_at _ _ _ _ (by simp)]; rfl)
             have y2 := Kep.all g1 (a := ⟨w.heap.size + 1 + 1, 2, none⟩) (v := .int .i32 y.ax) (by (repeat (first | rw [World.cell?_drew] | rw [World.cell?_alloc_past _ _ _ (by first | (simp; done) | (simp; omega))])); rw [World.cell?_alloc_at _ _ _ _ (by simp)]; rfl)
             have y3 := Kep.all g1 (a := ⟨w.heap.size + 1 + 1, 3, none⟩) (v := .int .i32 y.ay) (by (repeat (first | rw [World.cell?_drew] | rw [World.cell?_alloc_past _ _ _ (by first | (simp; done) | (simp; omega))])); rw [World.cell?_alloc_at _ _ _ _ (by simp)]; rfl)
             have y4 := Kep.all g1 (a := ⟨w.heap.size + 1 + 1, 4, none⟩) (v := .int .i32 y.m) (by (repeat (first | rw [World.cell?_drew] | rw [World.cell?_alloc_past _ _ _ (by first | (simp; done) | (simp; omega))])); rw [World.cell?_alloc_at _ _ _ _ (by simp)]; rfl)
             have y5 := Kep.all g1 (a := ⟨w.heap.size + 1 + 1, 5, none⟩) (v := .int .i32 y.o) (by (repeat (first | rw [World.cell?_drew] | rw [World.cell?_alloc_past _ _ _ (by first | (simp; done) | (simp; omega))])); rw [World.cell?_alloc_at _ _ _ _ (by simp)]; rfl)
             have y6 := Kep.all g1 (a := ⟨w.heap.size + 1 + 1, 6, none⟩) (v := .int .i32 y.px) (by (repeat (first | rw [World.cell?_drew] | rw [World.cell?_alloc_past _ _ _ (by first | (simp; done) | (simp; omega))])); rw [World.cell?_alloc_at _ _ _ _ (by simp)]; rfl)
             have y7 := Kep.all g1 (a := ⟨w.heap.size + 1 + 1, 7, none⟩) (v := .int .i32 y.py) (by (repeat (first | rw [World.cell?_drew] | rw [World.cell?_alloc_past _ _ _ (by first | (simp; done) | (simp; omega))])); rw [World.cell?_alloc_at _ _ _ _ (by simp)]; rfl)
             have y8 := Kep.all g1 (a := ⟨w.heap.size + 1 + 1, 8, none⟩) (v := .int .i32 y.vx) (by (repeat (first | rw [World.cell?_drew] | rw [World.cell?_alloc_past _ _ _ (by first | (simp; done) | (simp; omega))])); rw [World.cell?_alloc_at _ _ _ _ (by simp)]; rfl)
             have y9 := Kep.all g1 (a := ⟨w.heap.size + 1 + 1, 9, none⟩) (v := .int .i32 y.vy) (by (repeat (first | rw [World.cell?_drew] | rw [World.cell?_alloc_past _ _ _ (by first | (simp; done) | (simp; omega))])); rw [World.cell?_alloc_at _ _ _ _ (by simp)]; rfl)
             have gg := kep_next (kep_more (kep_more (kep_more (Kep.refl _ _) _) _) _) g1
             have zc_w1 : w.heap.size < w1.heap.size := World.block_lt_of_cell? _ _ c0
             have zx_w1 : w.heap.size + 1 < w1.heap.size := World.block_lt_of_cell? _ _ x0
             have zy_w1 : w.heap.size + 1 + 1 < w1.heap.size := World.block_lt_of_cell? _ _ y0)
          | ((with_reducible refine (RR.out _).mono ?_); rintro e w2 ⟨rfl, g2⟩
             replace c0 := Kep.all g2 (a := ⟨w.heap.size, 0, none⟩) (v := .int .u32 lo) c0
             replace c1 := Kep.all g2 (a := ⟨w.heap.size, 1, none⟩) (v := .int .u32 hi) c1
             replace c2 := Kep.all g2 (a := ⟨w.heap.size, 2, none⟩) (v := .int .i32 nx) c2
             replace c3 := Kep.all g2 (a := ⟨w.heap.size, 3, none⟩) (v := .int .i32 ny) c3
             replace c4 := Kep.all g2 (a := ⟨w.heap.size, 4, none⟩) (v := .int .i32 dp) c4
             replace x0 := Kep.all g2 (a := ⟨w.heap.size + 1, 0, none⟩) (v := .int .u32 x.k) x0
             replace x1 := Kep.all g2 (a := ⟨w.heap.size + 1, 1, none⟩) (v := .int .i32 x.r) x1
             replace x2 := Kep.all g2 (a := ⟨w.heap.size + 1, 2, none⟩) (v := .int .i32 x.ax) x2
             replace x3 := Kep.all g2 (a := ⟨w.heap.size + 1, 3, none⟩) (v := .int .i32 x.ay) x3
             replace x4 := Kep.all g2 (a := ⟨w.heap.size + 1, 4, none⟩) (v := .int .i32 x.m) x4
             replace x5 := Kep.all g2 (a := ⟨w.heap.size + 1, 5, none⟩) (v := .int .i32 x.o) x5
             replace x6 := Kep.all g2 (a := ⟨w.heap.size + 1, 6, none⟩) (v := .int .i32 x.px) x6
             replace x7 := Kep.all g2 (a := ⟨w.heap.size + 1, 7, none⟩) (v := .int .i32 x.py) x7
             replace x8 := Kep.all g2 (a := ⟨w.heap.size + 1, 8, none⟩) (v := .int .i32 x.vx) x8
             replace x9 := Kep.all g2 (a := ⟨w.heap.size + 1, 9, none⟩) (v := .int .i32 x.vy) x9
             replace y0 := Kep.all g2 (a := ⟨w.heap.size + 1 + 1, 0, none⟩) (v := .int .u32 y.k) y0
             replace y1 := Kep.all g2 (a := ⟨w.heap.size + 1 + 1, 1, none⟩) (v := .int .i32 y.r) y1
             replace y2 := Kep.all g2 (a := ⟨w.heap.size + 1 + 1, 2, none⟩) (v := .int .i32 y.ax) y2
             replace y3 := Kep.all g2 (a := ⟨w.heap.size + 1 + 1, 3, none⟩) (v := .int .i32 y.ay) y3
             replace y4 := Kep.all g2 (a := ⟨w.heap.size + 1 + 1, 4, none⟩) (v := .int .i32 y.m) y4
             replace y5 := Kep.all g2 (a := ⟨w.heap.size + 1 + 1, 5, none⟩) (v := .int .i32 y.o) y5
             replace y6 := Kep.all g2 (a := ⟨w.heap.size + 1 + 1, 6, none⟩) (v := .int .i32 y.px) y6
             replace y7 := Kep.all g2 (a := ⟨w.heap.size + 1 + 1, 7, none⟩) (v := .int .i32 y.py) y7
             replace y8 := Kep.all g2 (a := ⟨w.heap.size + 1 + 1, 8, none⟩) (v := .int .i32 y.vx) y8
             replace y9 := Kep.all g2 (a := ⟨w.heap.size + 1 + 1, 9, none⟩) (v := .int .i32 y.vy) y9
             replace gg := kep_next gg g2
             have zc_w2 : w.heap.size < w2.heap.size := World.block_lt_of_cell? _ _ c0
             have zx_w2 : w.heap.size + 1 < w2.heap.size := World.block_lt_of_cell? _ _ x0
             have zy_w2 : w.heap.size + 1 + 1 < w2.heap.size := World.block_lt_of_cell? _ _ y0)
          | ((with_reducible refine (C1.out _).mono ?_); rintro e w3 ⟨rfl, g3⟩
             replace c0 := Kep.all g3 (a := ⟨w.heap.size, 0, none⟩) (v := .int .u32 lo) c0
             replace c1 := Kep.all g3 (a := ⟨w.heap.size, 1, none⟩) (v := .int .u32 hi) c1
             replace c2 := Kep.all g3 (a := ⟨w.heap.size, 2, none⟩) (v := .int .i32 nx) c2
             replace c3 := Kep.all g3 (a := ⟨w.heap.size, 3, none⟩) (v := .int .i32 ny) c3
             replace c4 := Kep.all g3 (a := ⟨w.heap.size, 4, none⟩) (v := .int .i32 dp) c4
             replace x0 := Kep.all g3 (a := ⟨w.heap.size + 1, 0, none⟩) (v := .int .u32 x.k) x0
             replace x1 := Kep.all g3 (a := ⟨w.heap.size + 1, 1, none⟩) (v := .int .i32 x.r) x1
             replace x2 := Kep.all g3 (a := ⟨w.heap.size + 1, 2, none⟩) (v := .int .i32 x.ax) x2
             replace x3 := Kep.all g3 (a := ⟨w.heap.size + 1, 3, none⟩) (v := .int .i32 x.ay) x3
             replace x4 := Kep.all g3 (a := ⟨w.heap.size + 1, 4, none⟩) (v := .int .i32 x.m) x4
             replace x5 := Kep.all g3 (a := ⟨w.heap.size + 1, 5, none⟩) (v := .int .i32 x.o) x5
             replace x6 := Kep.all g3 (a := ⟨w.heap.size + 1, 6, none⟩) (v := .int .i32 x.px) x6
             replace x7 := Kep.all g3 (a := ⟨w.heap.size + 1, 7, none⟩) (v := .int .i32 x.py) x7
             replace x8 := Kep.all g3 (a := ⟨w.heap.size + 1, 8, none⟩) (v := .int .i32 x.vx) x8
             replace x9 := Kep.all g3 (a := ⟨w.heap.size + 1, 9, none⟩) (v := .int .i32 x.vy) x9
             replace y0 := Kep.all g3 (a := ⟨w.heap.size + 1 + 1, 0, none⟩) (v := .int .u32 y.k) y0
             replace y1 := Kep.all g3 (a := ⟨w.heap.size + 1 + 1, 1, none⟩) (v := .int .i32 y.r) y1
             replace y2 := Kep.all g3 (a := ⟨w.heap.size + 1 + 1, 2, none⟩) (v := .int .i32 y.ax) y2
             replace y3 := Kep.all g3 (a := ⟨w.heap.size + 1 + 1, 3, none⟩) (v := .int .i32 y.ay) y3
             replace y4 := Kep.all g3 (a := ⟨w.heap.size + 1 + 1, 4, none⟩) (v := .int .i32 y.m) y4
             replace y5 := Kep.all g3 (a := ⟨w.heap.size + 1 + 1, 5, none⟩) (v := .int .i32 y.o) y5
             replace y6 := Kep.all g3 (a := ⟨w.heap.size + 1 + 1, 6, none⟩) (v := .int .i32 y.px) y6
             replace y7 := Kep.all g3 (a := ⟨w.heap.size + 1 + 1, 7, none⟩) (v := .int .i32 y.py) y7
             replace y8 := Kep.all g3 (a := ⟨w.heap.size + 1 + 1, 8, none⟩) (v := .int .i32 y.vx) y8
             replace y9 := Kep.all g3 (a := ⟨w.heap.size + 1 + 1, 9, none⟩) (v := .int .i32 y.vy) y9
             replace gg := kep_next gg g3
             have zc_w3 : w.heap.size < w3.heap.size := World.block_lt_of_cell? _ _ c0
             have zx_w3 : w.heap.size + 1 < w3.heap.size := World.block_lt_of_cell? _ _ x0
             have zy_w3 : w.heap.size + 1 + 1 < w3.heap.size := World.block_lt_of_cell? _ _ y0)
          | ((with_reducible refine (D1.out _).mono ?_); rintro e w5 ⟨rfl, g5⟩
             replace c0 := Kep.all g5 (a := ⟨w.heap.size, 0, none⟩) (v := .int .u32 lo) c0
             replace c1 := Kep.all g5 (a := ⟨w.heap.size, 1, none⟩) (v := .int .u32 hi) c1
             replace c2 := Kep.all g5 (a := ⟨w.heap.size, 2, none⟩) (v := .int .i32 nx) c2
             replace c3 := Kep.all g5 (a := ⟨w.heap.size, 3, none⟩) (v := .int .i32 ny) c3
             replace c4 := Kep.all g5 (a := ⟨w.heap.size, 4, none⟩) (v := .int .i32 dp) c4
             replace x0 := Kep.all g5 (a := ⟨w.heap.size + 1, 0, none⟩) (v := .int .u32 x.k) x0
             replace x1 := Kep.all g5 (a := ⟨w.heap.size + 1, 1, none⟩) (v := .int .i32 x.r) x1
             replace x2 := Kep.all g5 (a := ⟨w.heap.size + 1, 2, none⟩) (v := .int .i32 x.ax) x2
             replace x3 := Kep.all g5 (a := ⟨w.heap.size + 1, 3, none⟩) (v := .int .i32 x.ay) x3
             replace x4 := Kep.all g5 (a := ⟨w.heap.size + 1, 4, none⟩) (v := .int .i32 x.m) x4
             replace x5 := Kep.all g5 (a := ⟨w.heap.size + 1, 5, none⟩) (v := .int .i32 x.o) x5
             replace x6 := Kep.all g5 (a := ⟨w.heap.size + 1, 6, none⟩) (v := .int .i32 x.px) x6
             replace x7 := Kep.all g5 (a := ⟨w.heap.size + 1, 7, none⟩) (v := .int .i32 x.py) x7
             replace x8 := Kep.all g5 (a := ⟨w.heap.size + 1, 8, none⟩) (v := .int .i32 x.vx) x8
             replace x9 := Kep.all g5 (a := ⟨w.heap.size + 1, 9, none⟩) (v := .int .i32 x.vy) x9
             replace y0 := Kep.all g5 (a := ⟨w.heap.size + 1 + 1, 0, none⟩) (v := .int .u32 y.k) y0
             replace y1 := Kep.all g5 (a := ⟨w.heap.size + 1 + 1, 1, none⟩) (v := .int .i32 y.r) y1
             replace y2 := Kep.all g5 (a := ⟨w.heap.size + 1 + 1, 2, none⟩) (v := .int .i32 y.ax) y2
             replace y3 := Kep.all g5 (a := ⟨w.heap.size + 1 + 1, 3, none⟩) (v := .int .i32 y.ay) y3
             replace y4 := Kep.all g5 (a := ⟨w.heap.size + 1 + 1, 4, none⟩) (v := .int .i32 y.m) y4
             replace y5 := Kep.all g5 (a := ⟨w.heap.size + 1 + 1, 5, none⟩) (v := .int .i32 y.o) y5
             replace y6 := Kep.all g5 (a := ⟨w.heap.size + 1 + 1, 6, none⟩) (v := .int .i32 y.px) y6
             replace y7 := Kep.all g5 (a := ⟨w.heap.size + 1 + 1, 7, none⟩) (v := .int .i32 y.py) y7
             replace y8 := Kep.all g5 (a := ⟨w.heap.size + 1 + 1, 8, none⟩) (v := .int .i32 y.vx) y8
             replace y9 := Kep.all g5 (a := ⟨w.heap.size + 1 + 1, 9, none⟩) (v := .int .i32 y.vy) y9
             replace gg := kep_next gg g5
             have zc_w5 : w.heap.size < w5.heap.size := World.block_lt_of_cell? _ _ c0
             have zx_w5 : w.heap.size + 1 < w5.heap.size := World.block_lt_of_cell? _ _ x0
             have zy_w5 : w.heap.size + 1 + 1 < w5.heap.size := World.block_lt_of_cell? _ _ y0)
          | ((with_reducible refine (D2.out _).mono ?_); rintro e w6 ⟨rfl, g6⟩
             replace c0 := Kep.all g6 (a := ⟨w.heap.size, 0, none⟩) (v := .int .u32 lo) c0
             replace c1 := Kep.all g6 (a := ⟨w.heap.size, 1, none⟩) (v := .int .u32 hi) c1
             replace c2 := Kep.all g6 (a := ⟨w.heap.size, 2, none⟩) (v := .int .i32 nx) c2
             replace c3 := Kep.all g6 (a := ⟨w.heap.size, 3, none⟩) (v := .int .i32 ny) c3
             replace c4 := Kep.all g6 (a := ⟨w.heap.size, 4, none⟩) (v := .int .i32 dp) c4
             replace x0 := Kep.all g6 (a := ⟨w.heap.size + 1, 0, none⟩) (v := .int .u32 x.k) x0
             replace x1 := Kep.all g6 (a := ⟨w.heap.size + 1, 1, none⟩) (v := .int .i32 x.r) x1
             replace x2 := Kep.all g6 (a := ⟨w.heap.size + 1, 2, none⟩) (v := .int .i32 x.ax) x2
             replace x3 := Kep.all g6 (a := ⟨w.heap.size + 1, 3, none⟩) (v := .int .i32 x.ay) x3
             replace x4 := Kep.all g6 (a := ⟨w.heap.size + 1, 4, none⟩) (v := .int .i32 x.m) x4
             replace x5 := Kep.all g6 (a := ⟨w.heap.size + 1, 5, none⟩) (v := .int .i32 x.o) x5
             replace x6 := Kep.all g6 (a := ⟨w.heap.size + 1, 6, none⟩) (v := .int .i32 x.px) x6
             replace x7 := Kep.all g6 (a := ⟨w.heap.size + 1, 7, none⟩) (v := .int .i32 x.py) x7
             replace x8 := Kep.all g6 (a := ⟨w.heap.size + 1, 8, none⟩) (v := .int .i32 x.vx) x8
             replace x9 := Kep.all g6 (a := ⟨w.heap.size + 1, 9, none⟩) (v := .int .i32 x.vy) x9
             replace y0 := Kep.all g6 (a := ⟨w.heap.size + 1 + 1, 0, none⟩) (v := .int .u32 y.k) y0
             replace y1 := Kep.all g6 (a := ⟨w.heap.size + 1 + 1, 1, none⟩) (v := .int .i32 y.r) y1
             replace y2 := Kep.all g6 (a := ⟨w.heap.size + 1 + 1, 2, none⟩) (v := .int .i32 y.ax) y2
             replace y3 := Kep.all g6 (a := ⟨w.heap.size + 1 + 1, 3, none⟩) (v := .int .i32 y.ay) y3
             replace y4 := Kep.all g6 (a := ⟨w.heap.size + 1 + 1, 4, none⟩) (v := .int .i32 y.m) y4
             replace y5 := Kep.all g6 (a := ⟨w.heap.size + 1 + 1, 5, none⟩) (v := .int .i32 y.o) y5
             replace y6 := Kep.all g6 (a := ⟨w.heap.size + 1 + 1, 6, none⟩) (v := .int .i32 y.px) y6
             replace y7 := Kep.all g6 (a := ⟨w.heap.size + 1 + 1, 7, none⟩) (v := .int .i32 y.py) y7
             replace y8 := Kep.all g6 (a := ⟨w.heap.size + 1 + 1, 8, none⟩) (v := .int .i32 y.vx) y8
             replace y9 := Kep.all g6 (a := ⟨w.heap.size + 1 + 1, 9, none⟩) (v := .int .i32 y.vy) y9
             replace gg := kep_next gg g6
             have zc_w6 : w.heap.size < w6.heap.size := World.block_lt_of_cell? _ _ c0
             have zx_w6 : w.heap.size + 1 < w6.heap.size := World.block_lt_of_cell? _ _ x0
             have zy_w6 : w.heap.size + 1 + 1 < w6.heap.size := World.block_lt_of_cell? _ _ y0)
          | ((with_reducible refine (W1.out _).mono ?_); rintro e w' ⟨rfl, rfl⟩)
          | ((with_reducible refine (W2.out _).mono ?_); rintro e w' ⟨rfl, rfl⟩)
          | ((with_reducible refine (W3.out _).mono ?_); rintro e w' ⟨rfl, rfl⟩)
          | ((with_reducible refine (W4.out _).mono ?_); rintro e w' ⟨rfl, rfl⟩))
        go_ret
        exact ⟨rfl, gg⟩
    · have f2 : (x.m == 0) = false := by simp [ma]
      by_cases mb : y.m = 0
      · have f3 : (y.m == 0) = true := by simp [mb]
        obtain ⟨hr1, hr2⟩ := hr.out mb
        have f5 : (r != 0) = false := by simp [hr1]
        have f6 : (s != 0) = false := by simp [hr2]
        clear hr1 hr2
        clear ma mb hp hr hj
        go_enter Try.func4, Try.ntmps4
        go_wp2_with (first
          | ((with_reducible refine (AW.out _).mono ?_); rintro e w1 ⟨rfl, g1⟩
             have c0 := Kep.all g1 (a := ⟨w.heap.size, 0, none⟩) (v := .int .u32 lo) (by (repeat (first | rw [World.cell?_drew] | rw [World.cell?_alloc_past _ _ _ (by first | (simp; done) | (simp; omega))])); rw [World.cell?_alloc_at _ _ _ _ (by simp)]; rfl)
             have c1 := Kep.all g1 (a := ⟨w.heap.size, 1, none⟩) (v := .int .u32 hi) (by (repeat (first | rw [World.cell?_drew] | rw [World.cell?_alloc_past _ _ _ (by first | (simp; done) | (simp; omega))])); rw [World.cell?_alloc_at _ _ _ _ (by simp)]; rfl)
             have c2 := Kep.all g1 (a := ⟨w.heap.size, 2, none⟩) (v := .int .i32 nx) (by (repeat (first | rw [World.cell?_drew] | rw [World.cell?_alloc_past _ _ _ (by first | (simp; done) | (simp; omega))])); rw [World.cell?_alloc_at _ _ _ _ (by simp)]; rfl)
             have c3 := Kep.all g1 (a := ⟨w.heap.size, 3, none⟩) (v := .int .i32 ny) (by (repeat (first | rw [World.cell?_drew] | rw [World.cell?_alloc_past _ _ _ (by first | (simp; done) | (simp; omega))])); rw [World.cell?_alloc_at _ _ _ _ (by simp)]; rfl)
             have c4 := Kep.all g1 (a := ⟨w.heap.size, 4, none⟩) (v := .int .i32 dp) (by (repeat (first | rw [World.cell?_drew] | rw [World.cell?_alloc_past _ _ _ (by first | (simp; done) | (simp; omega))])); rw [World.cell?_alloc_at _ _ _ _ (by simp)]; rfl)
             have x0 := Kep.all g1 (a := ⟨w.heap.size + 1, 0, none⟩) (v := .int .u32 x.k) (by (repeat (first | rw [World.cell?_drew] | rw [World.cell?_alloc_past _ _ _ (by first | (simp; done) | (simp; omega))])); rw [World.cell?_alloc_at _ _ _ _ (by simp)]; rfl)
             have x1 := Kep.all g1 (a := ⟨w.heap.size + 1, 1, none⟩) (v := .int .i32 x.r) (by (repeat (first | rw [World.cell?_drew] | rw [World.cell?_alloc_past _ _ _ (by first | (simp; done) | (simp; omega))])); rw [World.cell?_alloc_at _ _ _ _ (by simp)]; rfl)
             have x2 := Kep.all g1 (a := ⟨w.heap.size + 1, 2, none⟩) (v := .int .i32 x.ax) (by (repeat (first | rw [World.cell?_drew] | rw [World.cell?_alloc_past _ _ _ (by first | (simp; done) | (simp; omega))])); rw [World.cell?_alloc_at _ _ _ _ (by simp)]; rfl)
             have x3 := Kep.all g1 (a := ⟨w.heap.size + 1, 3, none⟩) (v := .int .i32 x.ay) (by (repeat (first | rw [World.cell?_drew] | rw [World.cell?_alloc_past _ _ _ (by first | (simp; done) | (simp; omega))])); rw [World.cell?_alloc_at _ _ _ _ (by simp)]; rfl)
             have x4 := Kep.all g1 (a := ⟨w.heap.size + 1, 4, none⟩) (v := .int .i32 x.m) (by (repeat (first | rw [World.cell?_drew] | rw [World.cell?_alloc_past _ _ _ (by first | (simp; done) | (simp; omega))])); rw [World.cell?_alloc_at _ _ _ _ (by simp)]; rfl)
             have x5 := Kep.all g1 (a := ⟨w.heap.size + 1, 5, none⟩) (v := .int .i32 x.o) (by (repeat (first | rw [World.cell?_drew] | rw [World.cell?_alloc_past _ _ _ (by first | (simp; done) | (simp; omega))])); rw [World.cell?_alloc_at _ _ _ _ (by simp)]; rfl)
             have x6 := Kep.all g1 (a := ⟨w.heap.size + 1, 6, none⟩) (v := .int .i32 x.px) (by (repeat (first | rw [World.cell?_drew] | rw [World.cell?_alloc_past _ _ _ (by first | (simp; done) | (simp; omega))])); rw [World.cell?_alloc_at _ _ _ _ (by simp)]; rfl)
             have x7 := Kep.all g1 (a := ⟨w.heap.size + 1, 7, none⟩) (v := .int .i32 x.py) (by (repeat (first | rw [World.cell?_drew] | rw [World.cell?_alloc_past _ _ _ (by first | (simp; done) | (simp; omega))])); rw [World.cell?_alloc_at _ _ _ _ (by simp)]; rfl)
             have x8 := Kep.all g1 (a := ⟨w.heap.size + 1, 8, none⟩) (v := .int .i32 x.vx) (by (repeat (first | rw [World.cell?_drew] | rw [World.cell?_alloc_past _ _ _ (by first | (simp; done) | (simp; omega))])); rw [World.cell?_alloc_at _ _ _ _ (by simp)]; rfl)
             have x9 := Kep.all g1 (a := ⟨w.heap.size + 1, 9, none⟩) (v := .int .i32 x.vy) (by (repeat (first | rw [World.cell?_drew] | rw [World.cell?_alloc_past _ _ _ (by first | (simp; done) | (simp; omega))])); rw [World.cell?_alloc_at _ _ _ _ (by simp)]; rfl)
             have y0 := Kep.all g1 (a := ⟨w.heap.size + 1 + 1, 0, none⟩) (v := .int .u32 y.k) (by (repeat (first | rw [World.cell?_drew] | rw [World.cell?_alloc_past _ _ _ (by first | (simp; done) | (simp; omega))])); rw [World.cell?_alloc_at _ _ _ _ (by simp)]; rfl)
             have y1 := Kep.all g1 (a := ⟨w.heap.size + 1 + 1, 1, none⟩) (v := .int .i32 y.r) (by (repeat (first | rw [World.cell?_drew] | rw [World.cell?_alloc_past _ _ _ (by first | (simp; done) | (simp; omega))])); rw [World.cell?_alloc_at _ _ _ _ (by simp)]; rfl)
             have y2 := Kep.all g1 (a := ⟨w.heap.size + 1 + 1, 2, none⟩) (v := .int .i32 y.ax) (by (repeat (first | rw [World.cell?_drew] | rw [World.cell?_alloc_past _ _ _ (by first | (simp; done) | (simp; omega))])); rw [World.cell?_alloc_at _ _ _ _ (by simp)]; rfl)
             have y3 := Kep.all g1 (a := ⟨w.heap.size + 1 + 1, 3, none⟩) (v := .int .i32 y.ay) (by (repeat (first | rw [World.cell?_drew] | rw [World.cell?_alloc_past _ _ _ (by first | (simp; done) | (simp; omega))])); rw [World.cell?_alloc_at _ _ _ _ (by simp)]; rfl)
             have y4 := Kep.all g1 (a := ⟨w.heap.size + 1 + 1, 4, none⟩) (v := .int .i32 y.m) (by (repeat (first | rw [World.cell?_drew] | rw [World.cell?_alloc_past _ _ _ (by first | (simp; done) | (simp; omega))])); rw [World.cell?_alloc_at _ _ _ _ (by simp)]; rfl)
             have y5 := Kep.all g1 (a := ⟨w.heap.size + 1 + 1, 5, none⟩) (v := .int .i32 y.o) (by (repeat (first | rw [World.cell?_drew] | rw [World.cell?_alloc_past _ _ _ (by first | (simp; done) | (simp; omega))])); rw [World.cell?_alloc_at _ _ _ _ (by simp)]; rfl)
             have y6 := Kep.all g1 (a := ⟨w.heap.size + 1 + 1, 6, none⟩) (v := .int .i32 y.px) (by (repeat (first | rw [World.cell?_drew] | rw [World.cell?_alloc_past _ _ _ (by first | (simp; done) | (simp; omega))])); rw [World.cell?_alloc_at _ _ _ _ (by simp)]; rfl)
             have y7 := Kep.all g1 (a := ⟨w.heap.size + 1 + 1, 7, none⟩) (v := .int .i32 y.py) (by (repeat (first | rw [World.cell?_drew] | rw [World.cell?_alloc_past _ _ _ (by first | (simp; done) | (simp; omega))])); rw [World.cell?_alloc_at _ _ _ _ (by simp)]; rfl)
             have y8 := Kep.all g1 (a := ⟨w.heap.size + 1 + 1, 8, none⟩) (v := .int .i32 y.vx) (by (repeat (first | rw [World.cell?_drew] | rw [World.cell?_alloc_past _ _ _ (by first | (simp; done) | (simp; omega))])); rw [World.cell?_alloc_at _ _ _ _ (by simp)]; rfl)
             have y9 := Kep.all g1 (a := ⟨w.heap.size + 1 + 1, 9, none⟩) (v := .int .i32 y.vy) (by (repeat (first | rw [World.cell?_drew] | rw [World.cell?_alloc_past _ _ _ (by first | (simp; done) | (simp; omega))])); rw [World.cell?_alloc_at _ _ _ _ (by simp)]; rfl)
             have gg := kep_next (kep_more (kep_more (kep_more (Kep.refl _ _) _) _) _) g1
             have zc_w1 : w.heap.size < w1.heap.size := World.block_lt_of_cell? _ _ c0
             have zx_w1 : w.heap.size + 1 < w1.heap.size := World.block_lt_of_cell? _ _ x0
             have zy_w1 : w.heap.size + 1 + 1 < w1.heap.size := World.block_lt_of_cell? _ _ y0)
          | ((with_reducible refine (RR.out _).mono ?_); rintro e w2 ⟨rfl, g2⟩
             replace c0 := Kep.all g2 (a := ⟨w.heap.size, 0, none⟩) (v := .int .u32 lo) c0
             replace c1 := Kep.all g2 (a := ⟨w.heap.size, 1, none⟩) (v := .int .u32 hi) c1
             replace c2 := Kep.all g2 (a := ⟨w.heap.size, 2, none⟩) (v := .int .i32 nx) c2
             replace c3 := Kep.all g2 (a := ⟨w.heap.size, 3, none⟩) (v := .int .i32 ny) c3
             replace c4 := Kep.all g2 (a := ⟨w.heap.size, 4, none⟩) (v := .int .i32 dp) c4
             replace x0 := Kep.all g2 (a := ⟨w.heap.size + 1, 0, none⟩) (v := .int .u32 x.k) x0
             replace x1 := Kep.all g2 (a := ⟨w.heap.size + 1, 1, none⟩) (v := .int .i32 x.r) x1
             replace x2 := Kep.all g2 (a := ⟨w.heap.size + 1, 2, none⟩) (v := .int .i32 x.ax) x2
             replace x3 := Kep.all g2 (a := ⟨w.heap.size + 1, 3, none⟩) (v := .int .i32 x.ay) x3
             replace x4 := Kep.all g2 (a := ⟨w.heap.size + 1, 4, none⟩) (v := .int .i32 x.m) x4
             replace x5 := Kep.all g2 (a := ⟨w.heap.size + 1, 5, none⟩) (v := .int .i32 x.o) x5
             replace x6 := Kep.all g2 (a := ⟨w.heap.size + 1, 6, none⟩) (v := .int .i32 x.px) x6
             replace x7 := Kep.all g2 (a := ⟨w.heap.size + 1, 7, none⟩) (v := .int .i32 x.py) x7
             replace x8 := Kep.all g2 (a := ⟨w.heap.size + 1, 8, none⟩) (v := .int .i32 x.vx) x8
             replace x9 := Kep.all g2 (a := ⟨w.heap.size + 1, 9, none⟩) (v := .int .i32 x.vy) x9
             replace y0 := Kep.all g2 (a := ⟨w.heap.size + 1 + 1, 0, none⟩) (v := .int .u32 y.k) y0
             replace y1 := Kep.all g2 (a := ⟨w.heap.size + 1 + 1, 1, none⟩) (v := .int .i32 y.r) y1
             replace y2 := Kep.all g2 (a := ⟨w.heap.size + 1 + 1, 2, none⟩) (v := .int .i32 y.ax) y2
             replace y3 := Kep.all g2 (a := ⟨w.heap.size + 1 + 1, 3, none⟩) (v := .int .i32 y.ay) y3
             replace y4 := Kep.all g2 (a := ⟨w.heap.size + 1 + 1, 4, none⟩) (v := .int .i32 y.m) y4
             replace y5 := Kep.all g2 (a := ⟨w.heap.size + 1 + 1, 5, none⟩) (v := .int .i32 y.o) y5
             replace y6 := Kep.all g2 (a := ⟨w.heap.size + 1 + 1, 6, none⟩) (v := .int .i32 y.px) y6
             replace y7 := Kep.all g2 (a := ⟨w.heap.size + 1 + 1, 7, none⟩) (v := .int .i32 y.py) y7
             replace y8 := Kep.all g2 (a := ⟨w.heap.size + 1 + 1, 8, none⟩) (v := .int .i32 y.vx) y8
             replace y9 := Kep.all g2 (a := ⟨w.heap.size + 1 + 1, 9, none⟩) (v := .int .i32 y.vy) y9
             replace gg := kep_next gg g2
             have zc_w2 : w.heap.size < w2.heap.size := World.block_lt_of_cell? _ _ c0
             have zx_w2 : w.heap.size + 1 < w2.heap.size := World.block_lt_of_cell? _ _ x0
             have zy_w2 : w.heap.size + 1 + 1 < w2.heap.size := World.block_lt_of_cell? _ _ y0)
          | ((with_reducible refine (C1.out _).mono ?_); rintro e w3 ⟨rfl, g3⟩
             replace c0 := Kep.all g3 (a := ⟨w.heap.size, 0, none⟩) (v := .int .u32 lo) c0
             replace c1 := Kep.all g3 (a := ⟨w.heap.size, 1, none⟩) (v := .int .u32 hi) c1
             replace c2 := Kep.all g3 (a := ⟨w.heap.size, 2, none⟩) (v := .int .i32 nx) c2
             replace c3 := Kep.all g3 (a := ⟨w.heap.size, 3, none⟩) (v := .int .i32 ny) c3
             replace c4 := Kep.all g3 (a := ⟨w.heap.size, 4, none⟩) (v := .int .i32 dp) c4
             replace x0 := Kep.all g3 (a := ⟨w.heap.size + 1, 0, none⟩) (v := .int .u32 x.k) x0
             replace x1 := Kep.all g3 (a := ⟨w.heap.size + 1, 1, none⟩) (v := .int .i32 x.r) x1
             replace x2 := Kep.all g3 (a := ⟨w.heap.size + 1, 2, none⟩) (v := .int .i32 x.ax) x2
             replace x3 := Kep.all g3 (a := ⟨w.heap.size + 1, 3, none⟩) (v := .int .i32 x.ay) x3
             replace x4 := Kep.all g3 (a := ⟨w.heap.size + 1, 4, none⟩) (v := .int .i32 x.m) x4
             replace x5 := Kep.all g3 (a := ⟨w.heap.size + 1, 5, none⟩) (v := .int .i32 x.o) x5
             replace x6 := Kep.all g3 (a := ⟨w.heap.size + 1, 6, none⟩) (v := .int .i32 x.px) x6
             replace x7 := Kep.all g3 (a := ⟨w.heap.size + 1, 7, none⟩) (v := .int .i32 x.py) x7
             replace x8 := Kep.all g3 (a := ⟨w.heap.size + 1, 8, none⟩) (v := .int .i32 x.vx) x8
             replace x9 := Kep.all g3 (a := ⟨w.heap.size + 1, 9, none⟩) (v := .int .i32 x.vy) x9
             replace y0 := Kep.all g3 (a := ⟨w.heap.size + 1 + 1, 0, none⟩) (v := .int .u32 y.k) y0
             replace y1 := Kep.all g3 (a := ⟨w.heap.size + 1 + 1, 1, none⟩) (v := .int .i32 y.r) y1
             replace y2 := Kep.all g3 (a := ⟨w.heap.size + 1 + 1, 2, none⟩) (v := .int .i32 y.ax) y2
             replace y3 := Kep.all g3 (a := ⟨w.heap.size + 1 + 1, 3, none⟩) (v := .int .i32 y.ay) y3
             replace y4 := Kep.all g3 (a := ⟨w.heap.size + 1 + 1, 4, none⟩) (v := .int .i32 y.m) y4
             replace y5 := Kep.all g3 (a := ⟨w.heap.size + 1 + 1, 5, none⟩) (v := .int .i32 y.o) y5
             replace y6 := Kep.all g3 (a := ⟨w.heap.size + 1 + 1, 6, none⟩) (v := .int .i32 y.px) y6
             replace y7 := Kep.all g3 (a := ⟨w.heap.size + 1 + 1, 7, none⟩) (v := .int .i32 y.py) y7
             replace y8 := Kep.all g3 (a := ⟨w.heap.size + 1 + 1, 8, none⟩) (v := .int .i32 y.vx) y8
             replace y9 := Kep.all g3 (a := ⟨w.heap.size + 1 + 1, 9, none⟩) (v := .int .i32 y.vy) y9
             replace gg := kep_next gg g3
             have zc_w3 : w.heap.size < w3.heap.size := World.block_lt_of_cell? _ _ c0
             have zx_w3 : w.heap.size + 1 < w3.heap.size := World.block_lt_of_cell? _ _ x0
             have zy_w3 : w.heap.size + 1 + 1 < w3.heap.size := World.block_lt_of_cell? _ _ y0)
          | ((with_reducible refine (D1.out _).mono ?_); rintro e w5 ⟨rfl, g5⟩
             replace c0 := Kep.all g5 (a := ⟨w.heap.size, 0, none⟩) (v := .int .u32 lo) c0
             replace c1 := Kep.all g5 (a := ⟨w.heap.size, 1, none⟩) (v := .int .u32 hi) c1
             replace c2 := Kep.all g5 (a := ⟨w.heap.size, 2, none⟩) (v := .int .i32 nx) c2
             replace c3 := Kep.all g5 (a := ⟨w.heap.size, 3, none⟩) (v := .int .i32 ny) c3
             replace c4 := Kep.all g5 (a := ⟨w.heap.size, 4, none⟩) (v := .int .i32 dp) c4
             replace x0 := Kep.all g5 (a := ⟨w.heap.size + 1, 0, none⟩) (v := .int .u32 x.k) x0
             replace x1 := Kep.all g5 (a := ⟨w.heap.size + 1, 1, none⟩) (v := .int .i32 x.r) x1
             replace x2 := Kep.all g5 (a := ⟨w.heap.size + 1, 2, none⟩) (v := .int .i32 x.ax) x2
             replace x3 := Kep.all g5 (a := ⟨w.heap.size + 1, 3, none⟩) (v := .int .i32 x.ay) x3
             replace x4 := Kep.all g5 (a := ⟨w.heap.size + 1, 4, none⟩) (v := .int .i32 x.m) x4
             replace x5 := Kep.all g5 (a := ⟨w.heap.size + 1, 5, none⟩) (v := .int .i32 x.o) x5
             replace x6 := Kep.all g5 (a := ⟨w.heap.size + 1, 6, none⟩) (v := .int .i32 x.px) x6
             replace x7 := Kep.all g5 (a := ⟨w.heap.size + 1, 7, none⟩) (v := .int .i32 x.py) x7
             replace x8 := Kep.all g5 (a := ⟨w.heap.size + 1, 8, none⟩) (v := .int .i32 x.vx) x8
             replace x9 := Kep.all g5 (a := ⟨w.heap.size + 1, 9, none⟩) (v := .int .i32 x.vy) x9
             replace y0 := Kep.all g5 (a := ⟨w.heap.size + 1 + 1, 0, none⟩) (v := .int .u32 y.k) y0
             replace y1 := Kep.all g5 (a := ⟨w.heap.size + 1 + 1, 1, none⟩) (v := .int .i32 y.r) y1
             replace y2 := Kep.all g5 (a := ⟨w.heap.size + 1 + 1, 2, none⟩) (v := .int .i32 y.ax) y2
             replace y3 := Kep.all g5 (a := ⟨w.heap.size + 1 + 1, 3, none⟩) (v := .int .i32 y.ay) y3
             replace y4 := Kep.all g5 (a := ⟨w.heap.size + 1 + 1, 4, none⟩) (v := .int .i32 y.m) y4
             replace y5 := Kep.all g5 (a := ⟨w.heap.size + 1 + 1, 5, none⟩) (v := .int .i32 y.o) y5
             replace y6 := Kep.all g5 (a := ⟨w.heap.size + 1 + 1, 6, none⟩) (v := .int .i32 y.px) y6
             replace y7 := Kep.all g5 (a := ⟨w.heap.size + 1 + 1, 7, none⟩) (v := .int .i32 y.py) y7
             replace y8 := Kep.all g5 (a := ⟨w.heap.size + 1 + 1, 8, none⟩) (v := .int .i32 y.vx) y8
             replace y9 := Kep.all g5 (a := ⟨w.heap.size + 1 + 1, 9, none⟩) (v := .int .i32 y.vy) y9
             replace gg := kep_next gg g5
             have zc_w5 : w.heap.size < w5.heap.size := World.block_lt_of_cell? _ _ c0
             have zx_w5 : w.heap.size + 1 < w5.heap.size := World.block_lt_of_cell? _ _ x0
             have zy_w5 : w.heap.size + 1 + 1 < w5.heap.size := World.block_lt_of_cell? _ _ y0)
          | ((with_reducible refine (D2.out _).mono ?_); rintro e w6 ⟨rfl, g6⟩
             replace c0 := Kep.all g6 (a := ⟨w.heap.size, 0, none⟩) (v := .int .u32 lo) c0
             replace c1 := Kep.all g6 (a := ⟨w.heap.size, 1, none⟩) (v := .int .u32 hi) c1
             replace c2 := Kep.all g6 (a := ⟨w.heap.size, 2, none⟩) (v := .int .i32 nx) c2
             replace c3 := Kep.all g6 (a := ⟨w.heap.size, 3, none⟩) (v := .int .i32 ny) c3
             replace c4 := Kep.all g6 (a := ⟨w.heap.size, 4, none⟩) (v := .int .i32 dp) c4
             replace x0 := Kep.all g6 (a := ⟨w.heap.size + 1, 0, none⟩) (v := .int .u32 x.k) x0
             replace x1 := Kep.all g6 (a := ⟨w.heap.size + 1, 1, none⟩) (v := .int .i32 x.r) x1
             replace x2 := Kep.all g6 (a := ⟨w.heap.size + 1, 2, none⟩) (v := .int .i32 x.ax) x2
             replace x3 := Kep.all g6 (a := ⟨w.heap.size + 1, 3, none⟩) (v := .int .i32 x.ay) x3
             replace x4 := Kep.all g6 (a := ⟨w.heap.size + 1, 4, none⟩) (v := .int .i32 x.m) x4
             replace x5 := Kep.all g6 (a := ⟨w.heap.size + 1, 5, none⟩) (v := .int .i32 x.o) x5
             replace x6 := Kep.all g6 (a := ⟨w.heap.size + 1, 6, none⟩) (v := .int .i32 x.px) x6
             replace x7 := Kep.all g6 (a := ⟨w.heap.size + 1, 7, none⟩) (v := .int .i32 x.py) x7
             replace x8 := Kep.all g6 (a := ⟨w.heap.size + 1, 8, none⟩) (v := .int .i32 x.vx) x8
             replace x9 := Kep.all g6 (a := ⟨w.heap.size + 1, 9, none⟩) (v := .int .i32 x.vy) x9
             replace y0 := Kep.all g6 (a := ⟨w.heap.size + 1 + 1, 0, none⟩) (v := .int .u32 y.k) y0
             replace y1 := Kep.all g6 (a := ⟨w.heap.size + 1 + 1, 1, none⟩) (v := .int .i32 y.r) y1
             replace y2 := Kep.all g6 (a := ⟨w.heap.size + 1 + 1, 2, none⟩) (v := .int .i32 y.ax) y2
             replace y3 := Kep.all g6 (a := ⟨w.heap.size + 1 + 1, 3, none⟩) (v := .int .i32 y.ay) y3
             replace y4 := Kep.all g6 (a := ⟨w.heap.size + 1 + 1, 4, none⟩) (v := .int .i32 y.m) y4
             replace y5 := Kep.all g6 (a := ⟨w.heap.size + 1 + 1, 5, none⟩) (v := .int .i32 y.o) y5
             replace y6 := Kep.all g6 (a := ⟨w.heap.size + 1 + 1, 6, none⟩) (v := .int .i32 y.px) y6
             replace y7 := Kep.all g6 (a := ⟨w.heap.size + 1 + 1, 7, none⟩) (v := .int .i32 y.py) y7
             replace y8 := Kep.all g6 (a := ⟨w.heap.size + 1 + 1, 8, none⟩) (v := .int .i32 y.vx) y8
             replace y9 := Kep.all g6 (a := ⟨w.heap.size + 1 + 1, 9, none⟩) (v := .int .i32 y.vy) y9
             replace gg := kep_next gg g6
             have zc_w6 : w.heap.size < w6.heap.size := World.block_lt_of_cell? _ _ c0
             have zx_w6 : w.heap.size + 1 < w6.heap.size := World.block_lt_of_cell? _ _ x0
             have zy_w6 : w.heap.size + 1 + 1 < w6.heap.size := World.block_lt_of_cell? _ _ y0)
          | ((with_reducible refine (W1.out _).mono ?_); rintro e w' ⟨rfl, rfl⟩)
          | ((with_reducible refine (W2.out _).mono ?_); rintro e w' ⟨rfl, rfl⟩)
          | ((with_reducible refine (W3.out _).mono ?_); rintro e w' ⟨rfl, rfl⟩)
          | ((with_reducible refine (W4.out _).mono ?_); rintro e w' ⟨rfl, rfl⟩))
        go_ret
        exact ⟨rfl, gg⟩
      · have f3 : (y.m == 0) = false := by simp [mb]
        clear ma mb hp hr hj
        go_enter Try.func4, Try.ntmps4
        go_wp2_with (first
          | ((with_reducible refine (AW.out _).mono ?_); rintro e w1 ⟨rfl, g1⟩
             have c0 := Kep.all g1 (a := ⟨w.heap.size, 0, none⟩) (v := .int .u32 lo) (by (repeat (first | rw [World.cell?_drew] | rw [World.cell?_alloc_past _ _ _ (by first | (simp; done) | (simp; omega))])); rw [World.cell?_alloc_at _ _ _ _ (by simp)]; rfl)
             have c1 := Kep.all g1 (a := ⟨w.heap.size, 1, none⟩) (v := .int .u32 hi) (by (repeat (first | rw [World.cell?_drew] | rw [World.cell?_alloc_past _ _ _ (by first | (simp; done) | (simp; omega))])); rw [World.cell?_alloc_at _ _ _ _ (by simp)]; rfl)
             have c2 := Kep.all g1 (a := ⟨w.heap.size, 2, none⟩) (v := .int .i32 nx) (by (repeat (first | rw [World.cell?_drew] | rw [World.cell?_alloc_past _ _ _ (by first | (simp; done) | (simp; omega))])); rw [World.cell?_alloc_at _ _ _ _ (by simp)]; rfl)
             have c3 := Kep.all g1 (a := ⟨w.heap.size, 3, none⟩) (v := .int .i32 ny) (by (repeat (first | rw [World.cell?_drew] | rw [World.cell?_alloc_past _ _ _ (by first | (simp; done) | (simp; omega))])); rw [World.cell?_alloc_at _ _ _ _ (by simp)]; rfl)
             have c4 := Kep.all g1 (a := ⟨w.heap.size, 4, none⟩) (v := .int .i32 dp) (by (repeat (first | rw [World.cell?_drew] | rw [World.cell?_alloc_past _ _ _ (by first | (simp; done) | (simp; omega))])); rw [World.cell?_alloc_at _ _ _ _ (by simp)]; rfl)
             have x0 := Kep.all g1 (a := ⟨w.heap.size + 1, 0, none⟩) (v := .int .u32 x.k) (by (repeat (first | rw [World.cell?_drew] | rw [World.cell?_alloc_past _ _ _ (by first | (simp; done) | (simp; omega))])); rw [World.cell?_alloc_at _ _ _ _ (by simp)]; rfl)
             have x1 := Kep.all g1 (a := ⟨w.heap.size + 1, 1, none⟩) (v := .int .i32 x.r) (by (repeat (first | rw [World.cell?_drew] | rw [World.cell?_alloc_past _ _ _ (by first | (simp; done) | (simp; omega))])); rw [World.cell?_alloc_at _ _ _ _ (by simp)]; rfl)
             have x2 := Kep.all g1 (a := ⟨w.heap.size + 1, 2, none⟩) (v := .int .i32 x.ax) (by (repeat (first | rw [World.cell?_drew] | rw [World.cell?_alloc_past _ _ _ (by first | (simp; done) | (simp; omega))])); rw [World.cell?_alloc_at _ _ _ _ (by simp)]; rfl)
             have x3 := Kep.all g1 (a := ⟨w.heap.size + 1, 3, none⟩) (v := .int .i32 x.ay) (by (repeat (first | rw [World.cell?_drew] | rw [World.cell?_alloc_past _ _ _ (by first | (simp; done) | (simp; omega))])); rw [World.cell?_alloc_at _ _ _ _ (by simp)]; rfl)
             have x4 := Kep.all g1 (a := ⟨w.heap.size + 1, 4, none⟩) (v := .int .i32 x.m) (by (repeat (first | rw [World.cell?_drew] | rw [World.cell?_alloc_past _ _ _ (by first | (simp; done) | (simp; omega))])); rw [World.cell?_alloc_at _ _ _ _ (by simp)]; rfl)
             have x5 := Kep.all g1 (a := ⟨w.heap.size + 1, 5, none⟩) (v := .int .i32 x.o) (by (repeat (first | rw [World.cell?_drew] | rw [World.cell?_alloc_past _ _ _ (by first | (simp; done) | (simp; omega))])); rw [World.cell?_alloc_at _ _ _ _ (by simp)]; rfl)
             have x6 := Kep.all g1 (a := ⟨w.heap.size + 1, 6, none⟩) (v := .int .i32 x.px) (by (repeat (first | rw [World.cell?_drew] | rw [World.cell?_alloc_past _ _ _ (by first | (simp; done) | (simp; omega))])); rw [World.cell?_alloc_at _ _ _ _ (by simp)]; rfl)
             have x7 := Kep.all g1 (a := ⟨w.heap.size + 1, 7, none⟩) (v := .int .i32 x.py) (by (repeat (first | rw [World.cell?_drew] | rw [World.cell?_alloc_past _ _ _ (by first | (simp; done) | (simp; omega))])); rw [World.cell?_alloc_at _ _ _ _ (by simp)]; rfl)
             have x8 := Kep.all g1 (a := ⟨w.heap.size + 1, 8, none⟩) (v := .int .i32 x.vx) (by (repeat (first | rw [World.cell?_drew] | rw [World.cell?_alloc_past _ _ _ (by first | (simp; done) | (simp; omega))])); rw [World.cell?_alloc_at _ _ _ _ (by simp)]; rfl)
             have x9 := Kep.all g1 (a := ⟨w.heap.size + 1, 9, none⟩) (v := .int .i32 x.vy) (by (repeat (first | rw [World.cell?_drew] | rw [World.cell?_alloc_past _ _ _ (by first | (simp; done) | (simp; omega))])); rw [World.cell?_alloc_at _ _ _ _ (by simp)]; rfl)
             have y0 := Kep.all g1 (a := ⟨w.heap.size + 1 + 1, 0, none⟩) (v := .int .u32 y.k) (by (repeat (first | rw [World.cell?_drew] | rw [World.cell?_alloc_past _ _ _ (by first | (simp; done) | (simp; omega))])); rw [World.cell?_alloc_at _ _ _ _ (by simp)]; rfl)
             have y1 := Kep.all g1 (a := ⟨w.heap.size + 1 + 1, 1, none⟩) (v := .int .i32 y.r) (by (repeat (first | rw [World.cell?_drew] | rw [World.cell?_alloc_past _ _ _ (by first | (simp; done) | (simp; omega))])); rw [World.cell?_alloc_at _ _ _ _ (by simp)]; rfl)
             have y2 := Kep.all g1 (a := ⟨w.heap.size + 1 + 1, 2, none⟩) (v := .int .i32 y.ax) (by (repeat (first | rw [World.cell?_drew] | rw [World.cell?_alloc_past _ _ _ (by first | (simp; done) | (simp; omega))])); rw [World.cell?_alloc_at _ _ _ _ (by simp)]; rfl)
             have y3 := Kep.all g1 (a := ⟨w.heap.size + 1 + 1, 3, none⟩) (v := .int .i32 y.ay) (by (repeat (first | rw [World.cell?_drew] | rw [World.cell?_alloc_past _ _ _ (by first | (simp; done) | (simp; omega))])); rw [World.cell?_alloc_at _ _ _ _ (by simp)]; rfl)
             have y4 := Kep.all g1 (a := ⟨w.heap.size + 1 + 1, 4, none⟩) (v := .int .i32 y.m) (by (repeat (first | rw [World.cell?_drew] | rw [World.cell?_alloc_past _ _ _ (by first | (simp; done) | (simp; omega))])); rw [World.cell?_alloc_at _ _ _ _ (by simp)]; rfl)
             have y5 := Kep.all g1 (a := ⟨w.heap.size + 1 + 1, 5, none⟩) (v := .int .i32 y.o) (by (repeat (first | rw [World.cell?_drew] | rw [World.cell?_alloc_past _ _ _ (by first | (simp; done) | (simp; omega))])); rw [World.cell?_alloc_at _ _ _ _ (by simp)]; rfl)
             have y6 := Kep.all g1 (a := ⟨w.heap.size + 1 + 1, 6, none⟩) (v := .int .i32 y.px) (by (repeat (first | rw [World.cell?_drew] | rw [World.cell?_alloc_past _ _ _ (by first | (simp; done) | (simp; omega))])); rw [World.cell?_alloc_at _ _ _ _ (by simp)]; rfl)
             have y7 := Kep.all g1 (a := ⟨w.heap.size + 1 + 1, 7, none⟩) (v := .int .i32 y.py) (by (repeat (first | rw [World.cell?_drew] | rw [World.cell?_alloc_past _ _ _ (by first | (simp; done) | (simp; omega))])); rw [World.cell?_alloc_at _ _ _ _ (by simp)]; rfl)
             have y8 := Kep.all g1 (a := ⟨w.heap.size + 1 + 1, 8, none⟩) (v := .int .i32 y.vx) (by (repeat (first | rw [World.cell?_drew] | rw [World.cell?_alloc_past _ _ _ (by first | (simp; done) | (simp; omega))])); rw [World.cell?_alloc_at _ _ _ _ (by simp)]; rfl)
             have y9 := Kep.all g1 (a := ⟨w.heap.size + 1 + 1, 9, none⟩) (v := .int .i32 y.vy) (by (repeat (first | rw [World.cell?_drew] | rw [World.cell?_alloc_past _ _ _ (by first | (simp; done) | (simp; omega))])); rw [World.cell?_alloc_at _ _ _ _ (by simp)]; rfl)
             have gg := kep_next (kep_more (kep_more (kep_more (Kep.refl _ _) _) _) _) g1
             have zc_w1 : w.heap.size < w1.heap.size := World.block_lt_of_cell? _ _ c0
             have zx_w1 : w.heap.size + 1 < w1.heap.size := World.block_lt_of_cell? _ _ x0
             have zy_w1 : w.heap.size + 1 + 1 < w1.heap.size := World.block_lt_of_cell? _ _ y0)
          | ((with_reducible refine (RR.out _).mono ?_); rintro e w2 ⟨rfl, g2⟩
             replace c0 := Kep.all g2 (a := ⟨w.heap.size, 0, none⟩) (v := .int .u32 lo) c0
             replace c1 := Kep.all g2 (a := ⟨w.heap.size, 1, none⟩) (v := .int .u32 hi) c1
             replace c2 := Kep.all g2 (a := ⟨w.heap.size, 2, none⟩) (v := .int .i32 nx) c2
             replace c3 := Kep.all g2 (a := ⟨w.heap.size, 3, none⟩) (v := .int .i32 ny) c3
             replace c4 := Kep.all g2 (a := ⟨w.heap.size, 4, none⟩) (v := .int .i32 dp) c4
             replace x0 := Kep.all g2 (a := ⟨w.heap.size + 1, 0, none⟩) (v := .int .u32 x.k) x0
             replace x1 := Kep.all g2 (a := ⟨w.heap.size + 1, 1, none⟩) (v := .int .i32 x.r) x1
             replace x2 := Kep.all g2 (a := ⟨w.heap.size + 1, 2, none⟩) (v := .int .i32 x.ax) x2
             replace x3 := Kep.all g2 (a := ⟨w.heap.size + 1, 3, none⟩) (v := .int .i32 x.ay) x3
             replace x4 := Kep.all g2 (a := ⟨w.heap.size + 1, 4, none⟩) (v := .int .i32 x.m) x4
             replace x5 := Kep.all g2 (a := ⟨w.heap.size + 1, 5, none⟩) (v := .int .i32 x.o) x5
             replace x6 := Kep.all g2 (a := ⟨w.heap.size + 1, 6, none⟩) (v := .int .i32 x.px) x6
             replace x7 := Kep.all g2 (a := ⟨w.heap.size + 1, 7, none⟩) (v := .int .i32 x.py) x7
             replace x8 := Kep.all g2 (a := ⟨w.heap.size + 1, 8, none⟩) (v := .int .i32 x.vx) x8
             replace x9 := Kep.all g2 (a := ⟨w.heap.size + 1, 9, none⟩) (v := .int .i32 x.vy) x9
             replace y0 := Kep.all g2 (a := ⟨w.heap.size + 1 + 1, 0, none⟩) (v := .int .u32 y.k) y0
             replace y1 := Kep.all g2 (a := ⟨w.heap.size + 1 + 1, 1, none⟩) (v := .int .i32 y.r) y1
             replace y2 := Kep.all g2 (a := ⟨w.heap.size + 1 + 1, 2, none⟩) (v := .int .i32 y.ax) y2
             replace y3 := Kep.all g2 (a := ⟨w.heap.size + 1 + 1, 3, none⟩) (v := .int .i32 y.ay) y3
             replace y4 := Kep.all g2 (a := ⟨w.heap.size + 1 + 1, 4, none⟩) (v := .int .i32 y.m) y4
             replace y5 := Kep.all g2 (a := ⟨w.heap.size + 1 + 1, 5, none⟩) (v := .int .i32 y.o) y5
             replace y6 := Kep.all g2 (a := ⟨w.heap.size + 1 + 1, 6, none⟩) (v := .int .i32 y.px) y6
             replace y7 := Kep.all g2 (a := ⟨w.heap.size + 1 + 1, 7, none⟩) (v := .int .i32 y.py) y7
             replace y8 := Kep.all g2 (a := ⟨w.heap.size + 1 + 1, 8, none⟩) (v := .int .i32 y.vx) y8
             replace y9 := Kep.all g2 (a := ⟨w.heap.size + 1 + 1, 9, none⟩) (v := .int .i32 y.vy) y9
             replace gg := kep_next gg g2
             have zc_w2 : w.heap.size < w2.heap.size := World.block_lt_of_cell? _ _ c0
             have zx_w2 : w.heap.size + 1 < w2.heap.size := World.block_lt_of_cell? _ _ x0
             have zy_w2 : w.heap.size + 1 + 1 < w2.heap.size := World.block_lt_of_cell? _ _ y0)
          | ((with_reducible refine (C1.out _).mono ?_); rintro e w3 ⟨rfl, g3⟩
             replace c0 := Kep.all g3 (a := ⟨w.heap.size, 0, none⟩) (v := .int .u32 lo) c0
             replace c1 := Kep.all g3 (a := ⟨w.heap.size, 1, none⟩) (v := .int .u32 hi) c1
             replace c2 := Kep.all g3 (a := ⟨w.heap.size, 2, none⟩) (v := .int .i32 nx) c2
             replace c3 := Kep.all g3 (a := ⟨w.heap.size, 3, none⟩) (v := .int .i32 ny) c3
             replace c4 := Kep.all g3 (a := ⟨w.heap.size, 4, none⟩) (v := .int .i32 dp) c4
             replace x0 := Kep.all g3 (a := ⟨w.heap.size + 1, 0, none⟩) (v := .int .u32 x.k) x0
             replace x1 := Kep.all g3 (a := ⟨w.heap.size + 1, 1, none⟩) (v := .int .i32 x.r) x1
             replace x2 := Kep.all g3 (a := ⟨w.heap.size + 1, 2, none⟩) (v := .int .i32 x.ax) x2
             replace x3 := Kep.all g3 (a := ⟨w.heap.size + 1, 3, none⟩) (v := .int .i32 x.ay) x3
             replace x4 := Kep.all g3 (a := ⟨w.heap.size + 1, 4, none⟩) (v := .int .i32 x.m) x4
             replace x5 := Kep.all g3 (a := ⟨w.heap.size + 1, 5, none⟩) (v := .int .i32 x.o) x5
             replace x6 := Kep.all g3 (a := ⟨w.heap.size + 1, 6, none⟩) (v := .int .i32 x.px) x6
             replace x7 := Kep.all g3 (a := ⟨w.heap.size + 1, 7, none⟩) (v := .int .i32 x.py) x7
             replace x8 := Kep.all g3 (a := ⟨w.heap.size + 1, 8, none⟩) (v := .int .i32 x.vx) x8
             replace x9 := Kep.all g3 (a := ⟨w.heap.size + 1, 9, none⟩) (v := .int .i32 x.vy) x9
             replace y0 := Kep.all g3 (a := ⟨w.heap.size + 1 + 1, 0, none⟩) (v := .int .u32 y.k) y0
             replace y1 := Kep.all g3 (a := ⟨w.heap.size + 1 + 1, 1, none⟩) (v := .int .i32 y.r) y1
             replace y2 := Kep.all g3 (a := ⟨w.heap.size + 1 + 1, 2, none⟩) (v := .int .i32 y.ax) y2
             replace y3 := Kep.all g3 (a := ⟨w.heap.size + 1 + 1, 3, none⟩) (v := .int .i32 y.ay) y3
             replace y4 := Kep.all g3 (a := ⟨w.heap.size + 1 + 1, 4, none⟩) (v := .int .i32 y.m) y4
             replace y5 := Kep.all g3 (a := ⟨w.heap.size + 1 + 1, 5, none⟩) (v := .int .i32 y.o) y5
             replace y6 := Kep.all g3 (a := ⟨w.heap.size + 1 + 1, 6, none⟩) (v := .int .i32 y.px) y6
             replace y7 := Kep.all g3 (a := ⟨w.heap.size + 1 + 1, 7, none⟩) (v := .int .i32 y.py) y7
             replace y8 := Kep.all g3 (a := ⟨w.heap.size + 1 + 1, 8, none⟩) (v := .int .i32 y.vx) y8
             replace y9 := Kep.all g3 (a := ⟨w.heap.size + 1 + 1, 9, none⟩) (v := .int .i32 y.vy) y9
             replace gg := kep_next gg g3
             have zc_w3 : w.heap.size < w3.heap.size := World.block_lt_of_cell? _ _ c0
             have zx_w3 : w.heap.size + 1 < w3.heap.size := World.block_lt_of_cell? _ _ x0
             have zy_w3 : w.heap.size + 1 + 1 < w3.heap.size := World.block_lt_of_cell? _ _ y0)
          | ((with_reducible refine (D1.out _).mono ?_); rintro e w5 ⟨rfl, g5⟩
             replace c0 := Kep.all g5 (a := ⟨w.heap.size, 0, none⟩) (v := .int .u32 lo) c0
             replace c1 := Kep.all g5 (a := ⟨w.heap.size, 1, none⟩) (v := .int .u32 hi) c1
             replace c2 := Kep.all g5 (a := ⟨w.heap.size, 2, none⟩) (v := .int .i32 nx) c2
             replace c3 := Kep.all g5 (a := ⟨w.heap.size, 3, none⟩) (v := .int .i32 ny) c3
             replace c4 := Kep.all g5 (a := ⟨w.heap.size, 4, none⟩) (v := .int .i32 dp) c4
             replace x0 := Kep.all g5 (a := ⟨w.heap.size + 1, 0, none⟩) (v := .int .u32 x.k) x0
             replace x1 := Kep.all g5 (a := ⟨w.heap.size + 1, 1, none⟩) (v := .int .i32 x.r) x1
             replace x2 := Kep.all g5 (a := ⟨w.heap.size + 1, 2, none⟩) (v := .int .i32 x.ax) x2
             replace x3 := Kep.all g5 (a := ⟨w.heap.size + 1, 3, none⟩) (v := .int .i32 x.ay) x3
             replace x4 := Kep.all g5 (a := ⟨w.heap.size + 1, 4, none⟩) (v := .int .i32 x.m) x4
             replace x5 := Kep.all g5 (a := ⟨w.heap.size + 1, 5, none⟩) (v := .int .i32 x.o) x5
             replace x6 := Kep.all g5 (a := ⟨w.heap.size + 1, 6, none⟩) (v := .int .i32 x.px) x6
             replace x7 := Kep.all g5 (a := ⟨w.heap.size + 1, 7, none⟩) (v := .int .i32 x.py) x7
             replace x8 := Kep.all g5 (a := ⟨w.heap.size + 1, 8, none⟩) (v := .int .i32 x.vx) x8
             replace x9 := Kep.all g5 (a := ⟨w.heap.size + 1, 9, none⟩) (v := .int .i32 x.vy) x9
             replace y0 := Kep.all g5 (a := ⟨w.heap.size + 1 + 1, 0, none⟩) (v := .int .u32 y.k) y0
             replace y1 := Kep.all g5 (a := ⟨w.heap.size + 1 + 1, 1, none⟩) (v := .int .i32 y.r) y1
             replace y2 := Kep.all g5 (a := ⟨w.heap.size + 1 + 1, 2, none⟩) (v := .int .i32 y.ax) y2
             replace y3 := Kep.all g5 (a := ⟨w.heap.size + 1 + 1, 3, none⟩) (v := .int .i32 y.ay) y3
             replace y4 := Kep.all g5 (a := ⟨w.heap.size + 1 + 1, 4, none⟩) (v := .int .i32 y.m) y4
             replace y5 := Kep.all g5 (a := ⟨w.heap.size + 1 + 1, 5, none⟩) (v := .int .i32 y.o) y5
             replace y6 := Kep.all g5 (a := ⟨w.heap.size + 1 + 1, 6, none⟩) (v := .int .i32 y.px) y6
             replace y7 := Kep.all g5 (a := ⟨w.heap.size + 1 + 1, 7, none⟩) (v := .int .i32 y.py) y7
             replace y8 := Kep.all g5 (a := ⟨w.heap.size + 1 + 1, 8, none⟩) (v := .int .i32 y.vx) y8
             replace y9 := Kep.all g5 (a := ⟨w.heap.size + 1 + 1, 9, none⟩) (v := .int .i32 y.vy) y9
             replace gg := kep_next gg g5
             have zc_w5 : w.heap.size < w5.heap.size := World.block_lt_of_cell? _ _ c0
             have zx_w5 : w.heap.size + 1 < w5.heap.size := World.block_lt_of_cell? _ _ x0
             have zy_w5 : w.heap.size + 1 + 1 < w5.heap.size := World.block_lt_of_cell? _ _ y0)
          | ((with_reducible refine (D2.out _).mono ?_); rintro e w6 ⟨rfl, g6⟩
             replace c0 := Kep.all g6 (a := ⟨w.heap.size, 0, none⟩) (v := .int .u32 lo) c0
             replace c1 := Kep.all g6 (a := ⟨w.heap.size, 1, none⟩) (v := .int .u32 hi) c1
             replace c2 := Kep.all g6 (a := ⟨w.heap.size, 2, none⟩) (v := .int .i32 nx) c2
             replace c3 := Kep.all g6 (a := ⟨w.heap.size, 3, none⟩) (v := .int .i32 ny) c3
             replace c4 := Kep.all g6 (a := ⟨w.heap.size, 4, none⟩) (v := .int .i32 dp) c4
             replace x0 := Kep.all g6 (a := ⟨w.heap.size + 1, 0, none⟩) (v := .int .u32 x.k) x0
             replace x1 := Kep.all g6 (a := ⟨w.heap.size + 1, 1, none⟩) (v := .int .i32 x.r) x1
             replace x2 := Kep.all g6 (a := ⟨w.heap.size + 1, 2, none⟩) (v := .int .i32 x.ax) x2
             replace x3 := Kep.all g6 (a := ⟨w.heap.size + 1, 3, none⟩) (v := .int .i32 x.ay) x3
             replace x4 := Kep.all g6 (a := ⟨w.heap.size + 1, 4, none⟩) (v := .int .i32 x.m) x4
             replace x5 := Kep.all g6 (a := ⟨w.heap.size + 1, 5, none⟩) (v := .int .i32 x.o) x5
             replace x6 := Kep.all g6 (a := ⟨w.heap.size + 1, 6, none⟩) (v := .int .i32 x.px) x6
             replace x7 := Kep.all g6 (a := ⟨w.heap.size + 1, 7, none⟩) (v := .int .i32 x.py) x7
             replace x8 := Kep.all g6 (a := ⟨w.heap.size + 1, 8, none⟩) (v := .int .i32 x.vx) x8
             replace x9 := Kep.all g6 (a := ⟨w.heap.size + 1, 9, none⟩) (v := .int .i32 x.vy) x9
             replace y0 := Kep.all g6 (a := ⟨w.heap.size + 1 + 1, 0, none⟩) (v := .int .u32 y.k) y0
             replace y1 := Kep.all g6 (a := ⟨w.heap.size + 1 + 1, 1, none⟩) (v := .int .i32 y.r) y1
             replace y2 := Kep.all g6 (a := ⟨w.heap.size + 1 + 1, 2, none⟩) (v := .int .i32 y.ax) y2
             replace y3 := Kep.all g6 (a := ⟨w.heap.size + 1 + 1, 3, none⟩) (v := .int .i32 y.ay) y3
             replace y4 := Kep.all g6 (a := ⟨w.heap.size + 1 + 1, 4, none⟩) (v := .int .i32 y.m) y4
             replace y5 := Kep.all g6 (a := ⟨w.heap.size + 1 + 1, 5, none⟩) (v := .int .i32 y.o) y5
             replace y6 := Kep.all g6 (a := ⟨w.heap.size + 1 + 1, 6, none⟩) (v := .int .i32 y.px) y6
             replace y7 := Kep.all g6 (a := ⟨w.heap.size + 1 + 1, 7, none⟩) (v := .int .i32 y.py) y7
             replace y8 := Kep.all g6 (a := ⟨w.heap.size + 1 + 1, 8, none⟩) (v := .int .i32 y.vx) y8
             replace y9 := Kep.all g6 (a := ⟨w.heap.size + 1 + 1, 9, none⟩) (v := .int .i32 y.vy) y9
             replace gg := kep_next gg g6
             have zc_w6 : w.heap.size < w6.heap.size := World.block_lt_of_cell? _ _ c0
             have zx_w6 : w.heap.size + 1 < w6.heap.size := World.block_lt_of_cell? _ _ x0
             have zy_w6 : w.heap.size + 1 + 1 < w6.heap.size := World.block_lt_of_cell? _ _ y0)
          | ((with_reducible refine (W1.out _).mono ?_); rintro e w' ⟨rfl, rfl⟩)
          | ((with_reducible refine (W2.out _).mono ?_); rintro e w' ⟨rfl, rfl⟩)
          | ((with_reducible refine (W3.out _).mono ?_); rintro e w' ⟨rfl, rfl⟩)
          | ((with_reducible refine (W4.out _).mono ?_); rintro e w' ⟨rfl, rfl⟩))
        go_ret
        exact ⟨rfl, gg⟩
/-- The law ImpulseSeparates. -/
theorem isl_law (O : IOps) (AW : IAwake) (lo hi nx ny dp : Int) (x y : Bd) (w : World) : Calls Try.prog 4 #[.agg #[.int .u32 lo, .int .u32 hi, .int .i32 nx, .int .i32 ny, .int .i32 dp], .agg #[.int .u32 x.k, .int .i32 x.r, .int .i32 x.ax, .int .i32 x.ay, .int .i32 x.m, .int .i32 x.o, .int .i32 x.px, .int .i32 x.py, .int .i32 x.vx, .int .i32 x.vy], .agg #[.int .u32 y.k, .int .i32 y.r, .int .i32 y.ax, .int .i32 y.ay, .int .i32 y.m, .int .i32 y.o, .int .i32 y.px, .int .i32 y.py, .int .i32 y.vx, .int .i32 y.vy]] w fun e w' => e = .returned (.bool true) ∧ Kep w.heap.size w w' := by
  cases hr : imB nx ny x y
  · exact isl_bad (Lib.hid AW) lo hi nx ny dp x y (Lib.hid (jri lo hi nx ny dp x y false hr)) w
  · obtain ⟨hx, hy, h1, h2⟩ := imB_iff.1 hr
    have vx := Vb.of hx
    have vy := Vb.of hy
    have sb := st_bd vx vy h1 h2
    have m1 : 0 ≤ x.m ∧ x.m ≤ 1048576 := ⟨vx.m0, vx.m1⟩
    have m2 : 0 ≤ y.m ∧ y.m ≤ 1048576 := ⟨vy.m0, vy.m1⟩
    have b1 := ch_st vx vy h1 h2 (i := x.m) (n := nx) (by omega) h1
    have b2 := ch_st vx vy h1 h2 (i := x.m) (n := ny) (by omega) h2
    have b3 := ch_st vx vy h1 h2 (i := y.m) (n := nx) (by omega) h1
    have b4 := ch_st vx vy h1 h2 (i := y.m) (n := ny) (by omega) h2
    exact isl_main (Lib.hid AW) lo hi nx ny dp x y _ _ (x.m + y.m) _ _ _ _ (Lib.hid (jri lo hi nx ny dp x y true hr)) (Lib.hid (O.str hx hy h1 h2)) (Lib.hid (jap vx vy h1 h2 rfl)) (Lib.hid (O.chg sb m1 h1 h2)) (Lib.hid (O.chg sb m2 h1 h2)) (Lib.hid (iwi b1.1 b1.2)) (Lib.hid (iwi b2.1 b2.2)) (Lib.hid (iwi b3.1 b3.2)) (Lib.hid (iwi b4.1 b4.2))
      (decide_eq_false (by omega)) (decide_eq_false (by omega)) (fun h => st_pos h) (by rw [IntKind.wrap_i32]; omega) (fun h => by rw [h]; exact ⟨chI_zero _ _, chI_zero _ _⟩) (fun h => by rw [h]; exact ⟨chI_zero _ _, chI_zero _ _⟩) w
end Go.Proofs.Ytnmlknjjbonenaa
