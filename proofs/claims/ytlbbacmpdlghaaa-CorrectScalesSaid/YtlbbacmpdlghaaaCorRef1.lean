/-
  Package correct: the reference's Amount, Share, Same, Right.
-/
import Derived.Test.YtlbbacmpdlghaaaJ06JacMath
import Derived.Test.YtlbbacmpdlghaaaJ05GridMath
import Derived.Test.YtlbbacmpdlghaaaJacRef1
import Derived.Deep.DeepCutAuto
import Derived.Deep.QuietTactic
import Derived.BigQuiet
namespace Go.Proofs.Ytlbbacmpdlghaaa
open Go.RowKit Go.Lib

abbrev SAm (lo hi nx ny dp : Int) (x y : Bd) (t : Int) : Prop := ∀ w, Calls Try.prog 13 #[.agg #[.int .u32 lo, .int .u32 hi, .int .i32 nx, .int .i32 ny, .int .i32 dp], .agg #[.int .u32 x.k, .int .i32 x.r, .int .i32 x.ax, .int .i32 x.ay, .int .i32 x.m, .int .i32 x.o, .int .i32 x.px, .int .i32 x.py, .int .i32 x.vx, .int .i32 x.vy], .agg #[.int .u32 y.k, .int .i32 y.r, .int .i32 y.ax, .int .i32 y.ay, .int .i32 y.m, .int .i32 y.o, .int .i32 y.px, .int .i32 y.py, .int .i32 y.vx, .int .i32 y.vy]] w fun e w' => e = .returned (.int .i64 t) ∧ Kep w.heap.size w w'
abbrev SSh (lo hi nx ny dp : Int) (x y : Bd) (m t : Int) : Prop := ∀ w, Calls Try.prog 15 #[.agg #[.int .u32 lo, .int .u32 hi, .int .i32 nx, .int .i32 ny, .int .i32 dp], .agg #[.int .u32 x.k, .int .i32 x.r, .int .i32 x.ax, .int .i32 x.ay, .int .i32 x.m, .int .i32 x.o, .int .i32 x.px, .int .i32 x.py, .int .i32 x.vx, .int .i32 x.vy], .agg #[.int .u32 y.k, .int .i32 y.r, .int .i32 y.ax, .int .i32 y.ay, .int .i32 y.m, .int .i32 y.o, .int .i32 y.px, .int .i32 y.py, .int .i32 y.vx, .int .i32 y.vy], .int .i32 m] w fun e w' => e = .returned (.int .i64 t) ∧ Kep w.heap.size w w'
set_option maxRecDepth 100000 in
set_option maxHeartbeats 2000000 in
theorem ram {lo hi nx ny dp : Int} {x y : Bd} {t : Int} (hx : Vb x) (hy : Vb y) (hd : Dp dp) (ht : amI dp x y = t) : SAm lo hi nx ny dp x y t := fun w => by
  obtain ⟨a1, a2, a3, a4, a5, a6, a7, a8⟩ := hx
  obtain ⟨b1, b2, b3, b4, b5, b6, b7, b8⟩ := hy
  unfold amI at ht
  obtain ⟨M, hM⟩ : ∃ z, z = x.m + y.m := ⟨_, rfl⟩
  rw [← hM] at ht
  have w1 : IntKind.i32.wrap (x.m + y.m) = M := by rw [IntKind.wrap_i32]; omega
  have w2 : wrap32 (x.m + y.m) = M := by unfold wrap32; omega
  by_cases c1 : dp ≤ 1024
  · rw [if_pos (.inl c1)] at ht
    subst ht
    have d1 : decide (dp ≤ 1024) = true := decide_eq_true c1
    clear a1 a2 a3 a4 a5 a6 a7 a8 b1 b2 b3 b4 b5 b6 b7 b8 hd hM c1
    go_enter Try.func13, Try.ntmps13
    go_wp2_with fail
    go_ret
    exact ⟨rfl, (kep_more (kep_more (kep_more (Kep.refl _ _) _) _) _)⟩
  have d1 : decide (dp ≤ 1024) = false := decide_eq_false c1
  by_cases c2 : M = 0
  · rw [if_pos (.inr c2)] at ht
    subst ht
    have d2 : (M == 0) = true := by simp [c2]
    clear a1 a2 a3 a4 a5 a6 a7 a8 b1 b2 b3 b4 b5 b6 b7 b8 hd hM c1 c2
    go_enter Try.func13, Try.ntmps13
    go_wp2_with fail
    go_ret
    exact ⟨rfl, (kep_more (kep_more (kep_more (Kep.refl _ _) _) _) _)⟩
  · rw [if_neg (by omega)] at ht
    have d2 : (M == 0) = false := by simp [c2]
    obtain ⟨u, hu⟩ : ∃ z, z = dp - 1024 := ⟨_, rfl⟩
    obtain ⟨p, hp⟩ : ∃ z, z = u * 26214 := ⟨_, rfl⟩
    rw [← hu, ← hp] at ht
    have w3 : IntKind.i64.wrap dp = dp := by rw [IntKind.wrap_i64]; omega
    have w4 : IntKind.i64.wrap (dp - 1024) = u := by rw [IntKind.wrap_i64]; omega
    have w5 : IntKind.i64.wrap (u * 26214) = p := by rw [IntKind.wrap_i64]; omega
    have C2 : Hid (JFl p 65536 t) := Lib.hid (fun w => by rw [← ht]; exact reffl_any p 65536 (by unfold I64; omega) (by decide) (by decide) w)
    clear a1 a2 a3 a4 a5 a6 a7 a8 b1 b2 b3 b4 b5 b6 b7 b8 hd hM c1 c2 hu hp ht
    go_enter Try.func13, Try.ntmps13
    go_wp2_with ((with_reducible refine (C2.out _).mono ?_); rintro e w' ⟨rfl, rfl⟩)
    go_ret
    exact ⟨rfl, (kep_more (kep_more (kep_more (Kep.refl _ _) _) _) _)⟩
set_option maxRecDepth 100000 in
set_option maxHeartbeats 2000000 in
theorem rsh {lo hi nx ny dp : Int} {x y : Bd} {m t : Int} (hx : Vb x) (hy : Vb y) (hd : Dp dp) (hm : 0 ≤ m ∧ m ≤ 1048576) (ht : shI dp x y m = t) : SSh lo hi nx ny dp x y m t := fun w => by
  have hb := am_bd (x := x) (y := y) hd
  have C1 := Lib.hid (ram (lo := lo) (hi := hi) (nx := nx) (ny := ny) hx hy hd rfl)
  have hz : amI dp x y ≠ 0 → x.m + y.m ≠ 0 := fun h e => h (am_zero e)
  obtain ⟨a1, a2, a3, a4, a5, a6, a7, a8⟩ := hx
  obtain ⟨b1, b2, b3, b4, b5, b6, b7, b8⟩ := hy
  unfold shI at ht
  generalize amI dp x y = v at *
  by_cases c1 : v = 0
  · rw [if_pos c1] at ht
    subst ht
    have d1 : (v == 0) = true := by simp [c1]
    clear a1 a2 a3 a4 a5 a6 a7 a8 b1 b2 b3 b4 b5 b6 b7 b8 hd hb hz hm c1
    go_enter Try.func15, Try.ntmps15
    go_wp2_with (first
      | ((with_reducible refine (C1.out _).mono ?_); rintro e w1 ⟨rfl, g1⟩
         have c0 := Kep.all g1 (a := ⟨w.heap.size, 0, none⟩) (v := .int .u32 lo) (by (repeat (first | rw [World.cell?_drew] | rw [World.cell?_alloc_past _ _ _ (by first | (simp; done) | (simp; omega))])); rw [World.cell?_alloc_at _ _ _ _ (by simp)]; rfl)
         have c1 := Kep.all g1 (a := ⟨w.heap.size, 1, none⟩) (v := .int .u32 hi) (by (repeat (first | rw [World.cell?_drew] | rw [World.cell?_alloc_past _ _ _ (by first | (simp; done) | (simp; omega))])); rw [World.cell?_alloc_at _ _ _ _ (by simp)]; rfl)
         have c2 := Kep.all g1 (a := ⟨w.heap.size, 2, none⟩) (v := .int .i32 nx) (by (repeat (first | rw [World.cell?_drew] | rw [World.cell?_alloc_past _ _ _ (by first | (simp; done) | (simp; omega))])); rw [World.cell?_alloc_at _ _ _ _ (by simp)]; rfl)
         have c3 := Kep.all g1 (a := ⟨w.heap.size, 3, none⟩) (v := .int .i32 ny) (by (repeat (first | rw [World.cell?_drew] | rw [World.cell?_alloc_past _ _ _ (by first | (simp; done) | (simp; omega))])); rw [World.cell?_alloc_at _ _ _ _ (by simp)]; rfl)
         have c4 := Kep.all g1 (a := ⟨w.heap.size, 4, none⟩) (v := .int .i32 dp) (by (repeat (first | rw [World.cell?_drew] | rw [World.cell?_alloc_past _ _ _ (by first | (simp; done) | (simp; omega))])); rw [World.cell?_alloc_at _ _ _ _ (by simp)]; rfl)
         have x0 := Kep.all g1 (a := ⟨w.heap.size + 1, 0, none⟩) (v := .int .u32 x.k) (by (repeat (first | rw [World.cell?_drew] | rw [World.cell?_alloc_past _ _ _ (by first | (simp; done) | (simp; omega))])); rw [World.cell?_alloc_at _ _ _ _ (by simp)]; rfl)
         have x1 := Kep.all g1 (a := ⟨w.heap.size + 1, 1, none⟩) (v := .int .i32 x.r) (by (repeat (first | rw [World.cell?_drew] | rw [World.cell?_alloc_past _ _ _ (by first | (simp; done) | (simp; omega))])); rw [World.cell?_alloc_at _ _ _ _ (by simp)]; rfl)
         have x2 := Kep.all g1 (a := ⟨w.heap.size + 1, 2, none⟩) (v := .int .i32 x.ax) (by (repeat (first | rw [World.cell?_drew] | rw [World.cell?_alloc_past _ _ _ (by first | (simp; done) | (simp; omega))])); rw [World.cell?_alloc_at _ _ _ _ (by simp)]; rfl)
         have x3 := Kep.all g1 (a := ⟨w.heap.size + 1, 3, none⟩) (v := .int .i32 x.ay) (by (repeat (first | rw [World.cell?_drew] | rw [World.cell?_alloc_past _ _ _ (by first | (simp; done) | (simp; omega))])); rw [World.cell?_alloc_at _ _ _ _ (by simp)]; rfl)
         have x4 := Kep.all g1 (a := ⟨w.heap.size + 1, 4, none⟩) (v := .int .i32 x.m) (by (repeat (first | rw [World.cell?_drew] | rw [World.cell?_alloc_past _ _ _ (by first | (simp; done) | (simp; omega))])); rw [World.cell?_alloc_at _ _ _ _ (by simp)]; rfl)
         have x5 := Kep.all g1 (a := ⟨w.heap.size + 1, 5, none⟩) (v := .int .i32 x.o) (by (repeat (first | rw [World.cell?_drew] | rw [World.cell?_alloc_past _ _ _ (by first | (simp; done) | (simp; omega))])); rw [World.cell?_alloc_at _ _ _ _ (by simp)]; rfl)
         have x6 := Kep.all g1 (a := ⟨w.heap.size + 1, 6, none⟩) (v := .int .i32 x.px) (by (repeat (first | rw [World.cell?_drew] | rw [World.cell?_alloc_past _ _ _ (by first | (simp; done) | (simp; omega))])); rw [World.cell?_alloc_at _ _ _ _ (by simp)]; rfl)
         have x7 := Kep.all g1 (a := ⟨w.heap.size + 1, 7, none⟩) (v := .int .i32 x.py) (by (repeat (first | rw [World.cell?_drew] | rw [World.cell?_alloc_past _ _ _ (by first | (simp; done) | (simp; omega))])); rw [World.cell?_alloc_at _ _ _ _ (by simp)]; rfl)
         have x8 := Kep.all g1 (a := ⟨w.heap.size + 1, 8, none⟩) (v := .int .i32 x.vx) (by (repeat (first | rw [World.cell?_drew] | rw [World.cell?_alloc_past _ _ _ (by first | (simp; done) | (simp; omega))])); rw [World.cell?_alloc_at _ _ _ _ (by simp)]; rfl)
         have x9 := Kep.all g1 (a := ⟨w.heap.size + 1, 9, none⟩) (v := .int .i32 x.vy) (by (repeat (first | rw [World.cell?_drew] | rw [World.cell?_alloc_past _ _ _ (by first | (simp; done) | (simp; omega))])); rw [World.cell?_alloc_at _ _ _ _ (by simp)]; rfl)
         have y0 := Kep.all g1 (a := ⟨w.heap.size + 1 + 1, 0, none⟩) (v := .int .u32 y.k) (by (repeat (first | rw [World.cell?_drew] | rw [World.cell?_alloc_past _ _ _ (by first | (simp; done) | (simp; omega))])); rw [World.cell?_alloc_at _ _ _ _ (by simp)]; rfl)
         have y1 := Kep.all g1 (a := ⟨w.heap.size + 1 + 1, 1, none⟩) (v := .int .i32 y.r) (by (repeat (first | rw [World.cell?_drew] | rw [World.cell?_alloc_past _ _ _ (by first | (simp; done) | (simp; omega))])); rw [World.cell?_alloc_at _ _ _ _ (by simp)]; rfl)
         have y2 := Kep.all g1 (a := ⟨w.heap.size + 1 + 1, 2, none⟩) (v := .int .i32 y.ax) (by (repeat (first | rw [World.cell?_drew] | rw [World.cell?_alloc_past _ _ _ (by first | (simp; done) | (simp; omega))])); rw [World.cell?_alloc_at _ _ _ _ (by simp)]; rfl)
         have y3 := Kep.all g1 (a := ⟨w.heap.size + 1 + 1, 3, none⟩) (v := .int .i32 y.ay) (by (repeat (first | rw [World.cell?_drew] | rw [World.cell?_alloc_past _ _ _ (by first | (simp; done) | (simp; omega))])); rw [World.cell?_alloc_at _ _ _ _ (by simp)]; rfl)
         have y4 := Kep.all g1 (a := ⟨w.heap.size + 1 + 1, 4, none⟩) (v := .int .i32 y.m) (by (repeat (first | rw [World.cell?_drew] | rw [World.cell?_alloc_past _ _ _ (by first | (simp; done) | (simp; omega))])); rw [World.cell?_alloc_at _ _ _ _ (by simp)]; rfl)
         have y5 := Kep.all g1 (a := ⟨w.heap.size + 1 + 1, 5, none⟩) (v := .int .i32 y.o) (by (repeat (first | rw [World.cell?_drew] | rw [World.cell?_alloc_past _ _ _ (by first | (simp; done) | (simp; omega))])); rw [World.cell?_alloc_at _ _ _ _ (by simp)]; rfl)
         have y6 := Kep.all g1 (a := ⟨w.heap.size + 1 + 1, 6, none⟩) (v := .int .i32 y.px) (by (repeat (first | rw [World.cell?_drew] | rw [World.cell?_alloc_past _ _ _ (by first | (simp; done) | (simp; omega))])); rw [World.cell?_alloc_at _ _ _ _ (by simp)]; rfl)
         have y7 := Kep.all g1 (a := ⟨w.heap.size + 1 + 1, 7, none⟩) (v := .int .i32 y.py) (by (repeat (first | rw [World.cell?_drew] | rw [World.cell?_alloc_past _ _ _ (by first | (simp; done) | (simp; omega))])); rw [World.cell?_alloc_at _ _ _ _ (by simp)]; rfl)
         have y8 := Kep.all g1 (a := ⟨w.heap.size + 1 + 1, 8, none⟩) (v := .int .i32 y.vx) (by (repeat (first | rw [World.cell?_drew] | rw [World.cell?_alloc_past _ _ _ (by first | (simp; done) | (simp; omega))])); rw [World.cell?_alloc_at _ _ _ _ (by simp)]; rfl)
         have y9 := Kep.all g1 (a := ⟨w.heap.size + 1 + 1, 9, none⟩) (v := .int .i32 y.vy) (by (repeat (first | rw [World.cell?_drew] | rw [World.cell?_alloc_past _ _ _ (by first | (simp; done) | (simp; omega))])); rw [World.cell?_alloc_at _ _ _ _ (by simp)]; rfl)
         have gg := kep_next (kep_more (kep_more (kep_more (Kep.refl _ _) _) _) _) g1
         have zc_w1 : w.heap.size < w1.heap.size := World.block_lt_of_cell? _ _ c0
         have zx_w1 : w.heap.size + 1 < w1.heap.size := World.block_lt_of_cell? _ _ x0
         have zy_w1 : w.heap.size + 1 + 1 < w1.heap.size := World.block_lt_of_cell? _ _ y0))
    go_ret
    exact ⟨rfl, gg⟩
  · rw [if_neg c1] at ht
    have d1 : (v == 0) = false := by simp [c1]
    have hM0 := hz c1
    obtain ⟨M, hM⟩ : ∃ z, z = x.m + y.m := ⟨_, rfl⟩
    have hp := mul_bd (a := v) (b := m) (A := 6710476) (B := 1048576) (by omega) (by omega)
    have hpe : (6710476 : Int) * 1048576 = 7036444082176 := by decide
    rw [hpe] at hp
    obtain ⟨p, hpp⟩ : ∃ z, z = v * m := ⟨_, rfl⟩
    rw [← hpp] at hp ht
    rw [← hM] at ht hM0
    have w1 : IntKind.i64.wrap x.m = x.m := by rw [IntKind.wrap_i64]; omega
    have w2 : IntKind.i64.wrap y.m = y.m := by rw [IntKind.wrap_i64]; omega
    have w3 : IntKind.i64.wrap (x.m + y.m) = M := by rw [IntKind.wrap_i64]; omega
    have w4 : IntKind.i64.wrap m = m := by rw [IntKind.wrap_i64]; omega
    have w5 : IntKind.i64.wrap (v * m) = p := by rw [← hpp, IntKind.wrap_i64]; omega
    have C2 : Hid (JFl p M t) := Lib.hid (fun w => by rw [← ht]; exact reffl_any p M (by unfold I64; omega) (by omega) (by omega) w)
    clear a1 a2 a3 a4 a5 a6 a7 a8 b1 b2 b3 b4 b5 b6 b7 b8 hd hb hz hm c1 hM0 hM hpp hp hpe ht
    go_enter Try.func15, Try.ntmps15
    go_wp2_with (first
      | ((with_reducible refine (C1.out _).mono ?_); rintro e w1 ⟨rfl, g1⟩
         have c0 := Kep.all g1 (a := ⟨w.heap.size, 0, none⟩) (v := .int .u32 lo) (by (repeat (first | rw [World.cell?_drew] | rw [World.cell?_alloc_past _ _ _ (by first | (simp; done) | (simp; omega))])); rw [World.cell?_alloc_at _ _ _ _ (by simp)]; rfl)
         have c1 := Kep.all g1 (a := ⟨w.heap.size, 1, none⟩) (v := .int .u32 hi) (by (repeat (first | rw [World.cell?_drew] | rw [World.cell?_alloc_past _ _ _ (by first | (simp; done) | (simp; omega))])); rw [World.cell?_alloc_at _ _ _ _ (by simp)]; rfl)
         have c2 := Kep.all g1 (a := ⟨w.heap.size, 2, none⟩) (v := .int .i32 nx) (by (repeat (first | rw [World.cell?_drew] | rw [World.cell?_alloc_past _ _ _ (by first | (simp; done) | (simp; omega))])); rw [World.cell?_alloc_at _ _ _ _ (by simp)]; rfl)
         have c3 := Kep.all g1 (a := ⟨w.heap.size, 3, none⟩) (v := .int .i32 ny) (by (repeat (first | rw [World.cell?_drew] | rw [World.cell?_alloc_past _ _ _ (by first | (simp; done) | (simp; omega))])); rw [World.cell?_alloc_at _ _ _ _ (by simp)]; rfl)
         have c4 := Kep.all g1 (a := ⟨w.heap.size, 4, none⟩) (v := .int .i32 dp) (by (repeat (first | rw [World.cell?_drew] | rw [World.cell?_alloc_past _ _ _ (by first | (simp; done) | (simp; omega))])); rw [World.cell?_alloc_at _ _ _ _ (by simp)]; rfl)
         have x0 := Kep.all g1 (a := ⟨w.heap.size + 1, 0, none⟩) (v := .int .u32 x.k) (by (repeat (first | rw [World.cell?_drew] | rw [World.cell?_alloc_past _ _ _ (by first | (simp; done) | (simp; omega))])); rw [World.cell?_alloc_at _ _ _ _ (by simp)]; rfl)
         have x1 := Kep.all g1 (a := ⟨w.heap.size + 1, 1, none⟩) (v := .int .i32 x.r) (by (repeat (first | rw [World.cell?_drew] | rw [World.cell?_alloc_past _ _ _ (by first | (simp; done) | (simp; omega))])); rw [World.cell?_alloc_at _ _ _ _ (by simp)]; rfl)
         have x2 := Kep.all g1 (a := ⟨w.heap.size + 1, 2, none⟩) (v := .int .i32 x.ax) (by (repeat (first | rw [World.cell?_drew] | rw [World.cell?_alloc_past _ _ _ (by first | (simp; done) | (simp; omega))])); rw [World.cell?_alloc_at _ _ _ _ (by simp)]; rfl)
         have x3 := Kep.all g1 (a := ⟨w.heap.size + 1, 3, none⟩) (v := .int .i32 x.ay) (by (repeat (first | rw [World.cell?_drew] | rw [World.cell?_alloc_past _ _ _ (by first | (simp; done) | (simp; omega))])); rw [World.cell?_alloc_at _ _ _ _ (by simp)]; rfl)
         have x4 := Kep.all g1 (a := ⟨w.heap.size + 1, 4, none⟩) (v := .int .i32 x.m) (by (repeat (first | rw [World.cell?_drew] | rw [World.cell?_alloc_past _ _ _ (by first | (simp; done) | (simp; omega))])); rw [World.cell?_alloc_at _ _ _ _ (by simp)]; rfl)
         have x5 := Kep.all g1 (a := ⟨w.heap.size + 1, 5, none⟩) (v := .int .i32 x.o) (by (repeat (first | rw [World.cell?_drew] | rw [World.cell?_alloc_past _ _ _ (by first | (simp; done) | (simp; omega))])); rw [World.cell?_alloc_at _ _ _ _ (by simp)]; rfl)
         have x6 := Kep.all g1 (a := ⟨w.heap.size + 1, 6, none⟩) (v := .int .i32 x.px) (by (repeat (first | rw [World.cell?_drew] | rw [World.cell?_alloc_past _ _ _ (by first | (simp; done) | (simp; omega))])); rw [World.cell?_alloc_at _ _ _ _ (by simp)]; rfl)
         have x7 := Kep.all g1 (a := ⟨w.heap.size + 1, 7, none⟩) (v := .int .i32 x.py) (by (repeat (first | rw [World.cell?_drew] | rw [World.cell?_alloc_past _ _ _ (by first | (simp; done) | (simp; omega))])); rw [World.cell?_alloc_at _ _ _ _ (by simp)]; rfl)
         have x8 := Kep.all g1 (a := ⟨w.heap.size + 1, 8, none⟩) (v := .int .i32 x.vx) (by (repeat (first | rw [World.cell?_drew] | rw [World.cell?_alloc_past _ _ _ (by first | (simp; done) | (simp; omega))])); rw [World.cell?_alloc_at _ _ _ _ (by simp)]; rfl)
         have x9 := Kep.all g1 (a := ⟨w.heap.size + 1, 9, none⟩) (v := .int .i32 x.vy) (by (repeat (first | rw [World.cell?_drew] | rw [World.cell?_alloc_past _ _ _ (by first | (simp; done) | (simp; omega))])); rw [World.cell?_alloc_at _ _ _ _ (by simp)]; rfl)
         have y0 := Kep.all g1 (a := ⟨w.heap.size + 1 + 1, 0, none⟩) (v := .int .u32 y.k) (by (repeat (first | rw [World.cell?_drew] | rw [World.cell?_alloc_past _ _ _ (by first | (simp; done) | (simp; omega))])); rw [World.cell?_alloc_at _ _ _ _ (by simp)]; rfl)
         have y1 := Kep.all g1 (a := ⟨w.heap.size + 1 + 1, 1, none⟩) (v := .int .i32 y.r) (by (repeat (first | rw [World.cell?_drew] | rw [World.cell?_alloc_past _ _ _ (by first | (simp; done) | (simp; omega))])); rw [World.cell?_alloc_at _ _ _ _ (by simp)]; rfl)
         have y2 := Kep.all g1 (a := ⟨w.heap.size + 1 + 1, 2, none⟩) (v := .int .i32 y.ax) (by (repeat (first | rw [World.cell?_drew] | rw [World.cell?_alloc_past _ _ _ (by first | (simp; done) | (simp; omega))])); rw [World.cell?_alloc_at _ _ _ _ (by simp)]; rfl)
         have y3 := Kep.all g1 (a := ⟨w.heap.size + 1 + 1, 3, none⟩) (v := .int .i32 y.ay) (by (repeat (first | rw [World.cell?_drew] | rw [World.cell?_alloc_past _ _ _ (by first | (simp; done) | (simp; omega))])); rw [World.cell?_alloc_at _ _ _ _ (by simp)]; rfl)
         have y4 := Kep.all g1 (a := ⟨w.heap.size + 1 + 1, 4, none⟩) (v := .int .i32 y.m) (by (repeat (first | rw [World.cell?_drew] | rw [World.cell?_alloc_past _ _ _ (by first | (simp; done) | (simp; omega))])); rw [World.cell?_alloc_at _ _ _ _ (by simp)]; rfl)
         have y5 := Kep.all g1 (a := ⟨w.heap.size + 1 + 1, 5, none⟩) (v := .int .i32 y.o) (by (repeat (first | rw [World.cell?_drew] | rw [World.cell?_alloc_past _ _ _ (by first | (simp; done) | (simp; omega))])); rw [World.cell?_alloc_at _ _ _ _ (by simp)]; rfl)
         have y6 := Kep.all g1 (a := ⟨w.heap.size + 1 + 1, 6, none⟩) (v := .int .i32 y.px) (by (repeat (first | rw [World.cell?_drew] | rw [World.cell?_alloc_past _ _ _ (by first | (simp; done) | (simp; omega))])); rw [World.cell?_alloc_at _ _ _ _ (by simp)]; rfl)
         have y7 := Kep.all g1 (a := ⟨w.heap.size + 1 + 1, 7, none⟩) (v := .int .i32 y.py) (by (repeat (first | rw [World.cell?_drew] | rw [World.cell?_alloc_past _ _ _ (by first | (simp; done) | (simp; omega))])); rw [World.cell?_alloc_at _ _ _ _ (by simp)]; rfl)
         have y8 := Kep.all g1 (a := ⟨w.heap.size + 1 + 1, 8, none⟩) (v := .int .i32 y.vx) (by (repeat (first | rw [World.cell?_drew] | rw [World.cell?_alloc_past _ _ _ (by first | (simp; done) | (simp; omega))])); rw [World.cell?_alloc_at _ _ _ _ (by simp)]; rfl)
         have y9 := Kep.all g1 (a := ⟨w.heap.size + 1 + 1, 9, none⟩) (v := .int .i32 y.vy) (by (repeat (first | rw [World.cell?_drew] | rw [World.cell?_alloc_past _ _ _ (by first | (simp; done) | (simp; omega))])); rw [World.cell?_alloc_at _ _ _ _ (by simp)]; rfl)
         have gg := kep_next (kep_more (kep_more (kep_more (Kep.refl _ _) _) _) _) g1
         have zc_w1 : w.heap.size < w1.heap.size := World.block_lt_of_cell? _ _ c0
         have zx_w1 : w.heap.size + 1 < w1.heap.size := World.block_lt_of_cell? _ _ x0
         have zy_w1 : w.heap.size + 1 + 1 < w1.heap.size := World.block_lt_of_cell? _ _ y0)
      | ((with_reducible refine (C2.out _).mono ?_); rintro e w' ⟨rfl, rfl⟩))
    go_ret
    exact ⟨rfl, gg⟩
theorem sh_ncmp (a b : Int) (w : World) : (binOp .neq 56 (.agg #[.int .i64 a, .int .i64 b]) (.agg #[.int .i64 a, .int .i64 b])).run Try.prog w = .ok (.bool false) w := by simp [go_sem]
set_option maxRecDepth 100000 in
set_option maxHeartbeats 2000000 in
theorem rsm (L : List Sh) (hm : L.length ≤ 1000000000) (va vb : Value) (w : World) (h1 : Sq shv 2 w va L) (h2 : Sq shv 2 w vb L) : Calls Try.prog 16 #[va, vb] w fun e w' => e = .returned (.bool true) ∧ Kep w.heap.size w w' := by
  obtain ⟨b1, c1, rfl, H1⟩ := h1
  obtain ⟨b2, c2, rfl, H2⟩ := h2
  have G1 := Lib.hid H1
  have G2 := Lib.hid H2
  clear H1 H2
  generalize hn : L.length = n at *
  have HN := Lib.hid hn
  clear hn
  go_enter Try.func16, Try.ntmps16
  go_wp2_with fail
  go_loopw [5] (fun i wr => ∃ k : Nat, k ≤ n ∧ i = .int .i64 k ∧ ∃ j, wr = w.drewN j) (fun i _ => n - (RowKit.intOf i).toNat)
  case atStart => exact ⟨0, by omega, rfl, 0, rfl⟩
  case round =>
    obtain ⟨k, hk, rfl, j, rfl⟩ := hrel
    by_cases hlt : k < n
    · have hb : L[k]? = some (L[k]'(by rw [HN.out]; exact hlt)) := List.getElem?_eq_getElem _
      generalize L[k]'(by rw [HN.out]; exact hlt) = x at hb
      obtain ⟨g1, o1, rfl, q1⟩ := G1.out k x hb
      obtain ⟨g2, o2, rfl, q2⟩ := G2.out k x hb
      have f0 : w.cell? ⟨g1, o1 + k * 2, none⟩ = some (.int .i64 x.1) := q1 0 _ rfl
      have f1 : w.cell? ⟨g1, o1 + k * 2 + 1, none⟩ = some (.int .i64 x.2) := q1 1 _ rfl
      have h0 : w.cell? ⟨g2, o2 + k * 2, none⟩ = some (.int .i64 x.1) := q2 0 _ rfl
      have h1 : w.cell? ⟨g2, o2 + k * 2 + 1, none⟩ = some (.int .i64 x.2) := q2 1 _ rfl
      have v1 := fun w => sh_ncmp x.1 x.2 w
      clear hb q1 q2
      go_wp2_with fail
      go_quiet (fail)
      go_wp2_with fail
      go_roundw
      case rel => exact ⟨k + 1, by omega, by go_num, _, rfl⟩
      case measure => simp [RowKit.intOf]; omega
    · go_wp2_with fail
      go_ret
      exact ⟨rfl, kep_drewN (Kep.refl _ _) _⟩
def rgtS (L : List Bd) (C : List Ct) : Bool := rgtJ L C && C.all fun c => decide (Dp c.dp)
theorem rgtS_iff {L : List Bd} {C : List Ct} : rgtS L C = true ↔ C.length ≤ 100 ∧ ∀ c ∈ C, RsC L c := by
  unfold rgtS
  rw [Bool.and_eq_true, rgtJ_iff, List.all_eq_true]
  constructor
  · rintro ⟨⟨h1, h2⟩, h3⟩
    exact ⟨h1, fun c hc => ⟨h2 c hc, of_decide_eq_true (h3 c hc)⟩⟩
  · rintro ⟨h1, h2⟩
    exact ⟨⟨h1, fun c hc => (h2 c hc).toRgC⟩, fun c hc => decide_eq_true (h2 c hc).dp⟩
abbrev RRs (L : List Bd) (C : List Ct) (z : Bool) : Prop := ∀ v l w, Lst w v L → Sq ctv 5 w l C → Calls Try.prog 10 #[v, l] w fun e w' => e = .returned (.bool z) ∧ Kep w.heap.size w w'
set_option maxRecDepth 100000 in
set_option maxHeartbeats 4000000 in
theorem rrs (L : List Bd) (hmL : L.length ≤ 1000000) (C : List Ct) : RRs L C (rgtS L C) := fun v l w h hl => by
  have RJ := rrj L hmL C
  cases hz : rgtJ L C with
  | false =>
    rw [hz] at RJ
    have C1 := Lib.hid (RJ v l w h hl)
    have e : rgtS L C = false := by unfold rgtS; rw [hz]; rfl
    rw [e]
    clear h hl RJ hz e
    go_enter Try.func10, Try.ntmps10
    go_wp2_with ((with_reducible refine (C1.out).mono ?_); rintro e w1 ⟨rfl, g1⟩)
    go_ret
    exact ⟨rfl, g1⟩
  | true =>
    rw [hz] at RJ
    have C1 := Lib.hid (RJ v l w h hl)
    have HE : Hid (rgtS L C = C.all fun c => decide (Dp c.dp)) := Lib.hid (by unfold rgtS; rw [hz]; rfl)
    rw [HE.out]
    have hlen := (rgtJ_iff.1 hz).1
    obtain ⟨bc, cc, rfl, hc⟩ := hl
    have HC := Lib.hid hc
    clear h hc RJ hz
    generalize hnc : C.length = nc at *
    have HN := Lib.hid hnc
    clear hnc
    go_enter Try.func10, Try.ntmps10
    go_wp2_with ((with_reducible refine (C1.out).mono ?_); rintro e w1 ⟨rfl, g1⟩)
    clear C1
    go_loopw [5] (fun i wr => ∃ k : Nat, k ≤ nc ∧ i = .int .i64 k ∧ wr = w1 ∧ Hid ((C.take k).all (fun c => decide (Dp c.dp)) = true)) (fun i _ => nc - (RowKit.intOf i).toNat)
    case atStart => exact ⟨0, by omega, rfl, rfl, Lib.hid (by simp)⟩
    case round =>
      obtain ⟨k, hk, rfl, rfl, HP⟩ := hrel
      by_cases hlt : k < nc
      · have hb : C[k]? = some (C[k]'(by rw [HN.out]; exact hlt)) := List.getElem?_eq_getElem _
        generalize C[k]'(by rw [HN.out]; exact hlt) = c at hb
        obtain ⟨gc, oc, rfl, q⟩ := HC.out k c hb
        have t4 : wr.cell? ⟨gc, oc + k * 5 + 4, none⟩ = some (.int .i32 c.dp) := g1.all (q 4 _ rfl)
        have HB := Lib.hid (all_takeC (t := fun c => decide (Dp c.dp)) hb)
        have HMEM := Lib.hid (List.mem_of_getElem? hb)
        clear hb q
        by_cases e1 : c.dp < 1
        · have d1 : decide (c.dp < 1) = true := decide_eq_true e1
          have HAF : Hid (C.all (fun c => decide (Dp c.dp)) = false) := Lib.hid (by
            rw [List.all_eq_false]
            exact ⟨c, HMEM.out, fun h => by have := (of_decide_eq_true h).1; omega⟩)
          clear e1
          go_wp2_with fail
          go_ret
          exact ⟨by rw [HAF.out]; rfl, g1⟩
        · have d1 : decide (c.dp < 1) = false := decide_eq_false e1
          by_cases e2 : 16777216 < c.dp
          · have d2 : decide (16777216 < c.dp) = true := decide_eq_true e2
            have HAF : Hid (C.all (fun c => decide (Dp c.dp)) = false) := Lib.hid (by
              rw [List.all_eq_false]
              exact ⟨c, HMEM.out, fun h => by have := (of_decide_eq_true h).2; omega⟩)
            clear e1 e2
            go_wp2_with fail
            go_ret
            exact ⟨by rw [HAF.out]; rfl, g1⟩
          · have d2 : decide (16777216 < c.dp) = false := decide_eq_false e2
            have HNX : Hid ((C.take (k + 1)).all (fun c => decide (Dp c.dp)) = true) := Lib.hid (by
              rw [HB.out, HP.out, decide_eq_true (show Dp c.dp from ⟨by omega, by omega⟩)]
              rfl)
            clear e1 e2
            go_wp2_with fail
            go_roundw
            case rel => exact ⟨k + 1, by omega, by go_num, by first | rfl | trivial, HNX⟩
            case measure => simp [RowKit.intOf]; omega
      · obtain rfl : k = nc := by omega
        have h1 := HP.out
        rw [List.take_of_length_le (by rw [HN.out]; omega)] at h1
        have H1 := Lib.hid h1
        clear h1
        go_wp2_with fail
        go_ret
        exact ⟨by rw [H1.out]; rfl, g1⟩
end Go.Proofs.Ytlbbacmpdlghaaa
