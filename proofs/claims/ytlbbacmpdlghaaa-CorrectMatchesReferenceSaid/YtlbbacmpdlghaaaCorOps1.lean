/-
  Package correct: fraction, Amount, Share.
-/
import Derived.Test.YtlbbacmpdlghaaaCorCon
import Derived.Test.YtlbbacmpdlghaaaJ01FxRef
import Derived.Test.YtlbbacmpdlghaaaJ00Bits
import Derived.Test.YtlbbacmpdlghaaaJ05GridMath
import Derived.Deep.DeepCutAuto
import Derived.Deep.QuietTactic
import Derived.BigQuiet
namespace Go.Proofs.Ytlbbacmpdlghaaa
open Go.RowKit Go.Lib

abbrev KFr (n p t : Int) : Prop := ∀ w, Calls Try.prog 24 #[.int .i64 n, .int .i32 p] w fun e w' => e = .returned (.int .i64 t) ∧ Kep w.heap.size w w'
abbrev KMdC (a b c t e : Int) : Prop := ∀ w, Calls Try.prog 26 #[.int .i64 a, .int .i64 b, .int .i64 c] w fun f w' => f = .returned (.tuple #[.int .i64 t, .int .i64 e]) ∧ Kep w.heap.size w w'
abbrev KMsC (a b t e : Int) : Prop := ∀ w, Calls Try.prog 32 #[.int .i64 a, .int .i64 b, .int .i64 16] w fun f w' => f = .returned (.tuple #[.int .i64 t, .int .i64 e]) ∧ Kep w.heap.size w w'
theorem kmsC {a b : Int} (ha : I64 a) (hb : I64 b) (h1 : -9223372036854775808 ≤ a * b / 65536) (h2 : a * b / 65536 < 9223372036854775808) : KMsC a b (a * b / 65536) (mse a b 16) := fun w => by
  have e := msv_16 h1 h2
  have := kep_calls (mulshift_any a b 16 ha hb w)
  rw [e] at this
  exact this
set_option maxRecDepth 100000 in
set_option maxHeartbeats 1000000 in
theorem cfr {n p t e : Int} (hp : IntKind.i64.wrap p = p) (X1 : KMsC n p t e) : KFr n p t := fun w => by
  have C1 := Lib.hid X1
  clear X1
  go_enter Try.func24, Try.ntmps24
  go_wp2_with ((with_reducible refine (C1.out _).mono ?_); rintro e w1 ⟨rfl, g1⟩)
  go_ret
  exact ⟨rfl, g1⟩
theorem cfr_ok {n p : Int} (hn : -16777216 ≤ n ∧ n ≤ 16777216) (hp : Nr p) : KFr n p (n * p / 65536) := by
  have b := mul_bd (a := n) (b := p) (A := 16777216) (B := 65536) hn hp
  exact cfr (by rw [IntKind.wrap_i64]; omega) (kmsC (by unfold I64; omega) (by unfold I64; omega) (by omega) (by omega))
set_option maxRecDepth 100000 in
set_option maxHeartbeats 1000000 in
theorem cam0 {lo hi nx ny dp : Int} {x y : Bd} (h0 : decide (dp ≤ 1024) = true) : CAm lo hi nx ny dp x y 0 := fun w => by
  go_enter Try.func12, Try.ntmps12
  go_wp2_with fail
  go_ret
  exact ⟨rfl, (kep_more (kep_more (kep_more (Kep.refl _ _) _) _) _)⟩
set_option maxRecDepth 100000 in
set_option maxHeartbeats 1000000 in
theorem cam1 {lo hi nx ny dp : Int} {x y : Bd} (h0 : decide (dp ≤ 1024) = false) (h1 : (x.m == 0) = true) (h2 : (y.m == 0) = true) : CAm lo hi nx ny dp x y 0 := fun w => by
  go_enter Try.func12, Try.ntmps12
  go_wp2_with fail
  go_ret
  exact ⟨rfl, (kep_more (kep_more (kep_more (Kep.refl _ _) _) _) _)⟩
set_option maxRecDepth 100000 in
set_option maxHeartbeats 1000000 in
theorem cam2 {lo hi nx ny dp u t : Int} {x y : Bd} (h0 : decide (dp ≤ 1024) = false) (h1 : (x.m == 0) = true) (h2 : (y.m == 0) = false) (e1 : IntKind.i64.wrap dp = dp) (e2 : IntKind.i64.wrap (dp - 1024) = u) (X1 : KFr u 26214 t) : CAm lo hi nx ny dp x y t := fun w => by
  have C1 := Lib.hid X1
  clear X1
  go_enter Try.func12, Try.ntmps12
  go_wp2_with (first
    | ((with_reducible refine (C1.out _).mono ?_); rintro e w1 ⟨rfl, g1⟩
       have gg := kep_next (kep_more (kep_more (kep_more (Kep.refl _ _) _) _) _) g1))
  go_ret
  exact ⟨rfl, gg⟩
set_option maxRecDepth 100000 in
set_option maxHeartbeats 1000000 in
theorem cam3 {lo hi nx ny dp u t : Int} {x y : Bd} (h0 : decide (dp ≤ 1024) = false) (h1 : (x.m == 0) = false) (e1 : IntKind.i64.wrap dp = dp) (e2 : IntKind.i64.wrap (dp - 1024) = u) (X1 : KFr u 26214 t) : CAm lo hi nx ny dp x y t := fun w => by
  have C1 := Lib.hid X1
  clear X1
  go_enter Try.func12, Try.ntmps12
  go_wp2_with (first
    | ((with_reducible refine (C1.out _).mono ?_); rintro e w1 ⟨rfl, g1⟩
       have gg := kep_next (kep_more (kep_more (kep_more (Kep.refl _ _) _) _) _) g1))
  go_ret
  exact ⟨rfl, gg⟩
theorem cam_ok {lo hi nx ny dp : Int} {x y : Bd} (hx : Vb x) (hy : Vb y) (hd : Dp dp) : CAm lo hi nx ny dp x y (amI dp x y) := by
  have m0 := hx.m0
  have m1 := hy.m0
  unfold amI
  by_cases c0 : dp ≤ 1024
  · rw [if_pos (.inl c0)]
    exact cam0 (decide_eq_true c0)
  · have w1 : IntKind.i64.wrap dp = dp := by rw [IntKind.wrap_i64]; omega
    have w2 : IntKind.i64.wrap (dp - 1024) = dp - 1024 := by rw [IntKind.wrap_i64]; omega
    have k := cfr_ok (n := dp - 1024) (p := 26214) (by omega) ⟨by omega, by omega⟩
    by_cases c1 : x.m = 0
    · by_cases c2 : y.m = 0
      · rw [if_pos (.inr (by omega))]
        exact cam1 (decide_eq_false c0) (beq_iff_eq.2 c1) (beq_iff_eq.2 c2)
      · rw [if_neg (by omega)]
        exact cam2 (decide_eq_false c0) (beq_iff_eq.2 c1) (beq_eq_false_iff_ne.2 c2) w1 w2 k
    · rw [if_neg (by omega)]
      exact cam3 (decide_eq_false c0) (beq_eq_false_iff_ne.2 c1) w1 w2 k
set_option maxRecDepth 100000 in
set_option maxHeartbeats 2000000 in
theorem csh_false {lo hi nx ny dp n s t e : Int} {x y : Bd} (X1 : CAm lo hi nx ny dp x y n) (X2 : KMdC n x.m s t e) (e1 : IntKind.i64.wrap x.m = x.m) (e2 : IntKind.i64.wrap y.m = y.m) (e3 : IntKind.i64.wrap (x.m + y.m) = s) : CSh lo hi nx ny dp x y false t := fun w => by
  have C1 := Lib.hid X1
  have C2 := Lib.hid X2
  clear X1 X2
  go_enter Try.func14, Try.ntmps14
  go_upto_region 4 with fail
  generalize hW : World.alloc (World.alloc (World.alloc w _) _) _ = W1
  have Zc : ZC W1 (w.heap.size) [.int .u32 lo, .int .u32 hi, .int .i32 nx, .int .i32 ny, .int .i32 dp] := by rw [← hW]; exact (ZC.more (ZC.more (zc_new' _ _ _ (by first | rfl | simp)) _) _)
  have Zx : ZC W1 (w.heap.size + 1) [.int .u32 x.k, .int .i32 x.r, .int .i32 x.ax, .int .i32 x.ay, .int .i32 x.m, .int .i32 x.o, .int .i32 x.px, .int .i32 x.py, .int .i32 x.vx, .int .i32 x.vy] := by rw [← hW]; exact (ZC.more (zc_new' _ _ _ (by first | rfl | simp)) _)
  have Zy : ZC W1 (w.heap.size + 1 + 1) [.int .u32 y.k, .int .i32 y.r, .int .i32 y.ax, .int .i32 y.ay, .int .i32 y.m, .int .i32 y.o, .int .i32 y.px, .int .i32 y.py, .int .i32 y.vx, .int .i32 y.vy] := by rw [← hW]; exact (zc_new' _ _ _ (by first | rfl | simp))
  have gg : Kep w.heap.size w W1 := by rw [← hW]; exact (kep_more (kep_more (kep_more (Kep.refl _ _) _) _) _)
  clear hW
  refine wp_region_noPanic ?_
  refine wp_region_held_drew (S := (fun w' => ZC w' (w.heap.size) [.int .u32 lo, .int .u32 hi, .int .i32 nx, .int .i32 ny, .int .i32 dp] ∧ ZC w' (w.heap.size + 1) [.int .u32 x.k, .int .i32 x.r, .int .i32 x.ax, .int .i32 x.ay, .int .i32 x.m, .int .i32 x.o, .int .i32 x.px, .int .i32 x.py, .int .i32 x.vx, .int .i32 x.vy] ∧ ZC w' (w.heap.size + 1 + 1) [.int .u32 y.k, .int .i32 y.r, .int .i32 y.ax, .int .i32 y.ay, .int .i32 y.m, .int .i32 y.o, .int .i32 y.px, .int .i32 y.py, .int .i32 y.vx, .int .i32 y.vy] ∧ Kep w.heap.size w w')) (by kernel_rfl) (⟨Zc.drew, Zx.drew, Zy.drew, kep_drew gg⟩) (fun hH => ?_)
  clear Zc Zx Zy gg
  refine rtk 0 (oi := ⟨some 18, .load 37 (.tmp 4), _, _, _, none⟩) (v := ?_) rfl ?_ hH ?_
  rotate_left
  · (intro wq hSw; (try dsimp only at hSw); obtain ⟨Zc, Zx, Zy, -⟩ := hSw; have qc0 : wq.cell? ⟨w.heap.size, 0, none⟩ = some (.int .u32 lo) := Zc.i (i := 0) rfl; have qc1 : wq.cell? ⟨w.heap.size, 1, none⟩ = some (.int .u32 hi) := Zc.i (i := 1) rfl; have qc2 : wq.cell? ⟨w.heap.size, 2, none⟩ = some (.int .i32 nx) := Zc.i (i := 2) rfl; have qc3 : wq.cell? ⟨w.heap.size, 3, none⟩ = some (.int .i32 ny) := Zc.i (i := 3) rfl; have qc4 : wq.cell? ⟨w.heap.size, 4, none⟩ = some (.int .i32 dp) := Zc.i (i := 4) rfl; have qzc := Zc.lt; have qx0 : wq.cell? ⟨w.heap.size + 1, 0, none⟩ = some (.int .u32 x.k) := Zx.i (i := 0) rfl; have qx1 : wq.cell? ⟨w.heap.size + 1, 1, none⟩ = some (.int .i32 x.r) := Zx.i (i := 1) rfl; have qx2 : wq.cell? ⟨w.heap.size + 1, 2, none⟩ = some (.int .i32 x.ax) := Zx.i (i := 2) rfl; have qx3 : wq.cell? ⟨w.heap.size + 1, 3, none⟩ = some (.int .i32 x.ay) := Zx.i (i := 3) rfl; have qx4 : wq.cell? ⟨w.heap.size + 1, 4, none⟩ = some (.int .i32 x.m) := Zx.i (i := 4) rfl; have qx5 : wq.cell? ⟨w.heap.size + 1, 5, none⟩ = some (.int .i32 x.o) := Zx.i (i := 5) rfl; have qx6 : wq.cell? ⟨w.heap.size + 1, 6, none⟩ = some (.int .i32 x.px) := Zx.i (i := 6) rfl; have qx7 : wq.cell? ⟨w.heap.size + 1, 7, none⟩ = some (.int .i32 x.py) := Zx.i (i := 7) rfl; have qx8 : wq.cell? ⟨w.heap.size + 1, 8, none⟩ = some (.int .i32 x.vx) := Zx.i (i := 8) rfl; have qx9 : wq.cell? ⟨w.heap.size + 1, 9, none⟩ = some (.int .i32 x.vy) := Zx.i (i := 9) rfl; have qzx := Zx.lt; have qy0 : wq.cell? ⟨w.heap.size + 1 + 1, 0, none⟩ = some (.int .u32 y.k) := Zy.i (i := 0) rfl; have qy1 : wq.cell? ⟨w.heap.size + 1 + 1, 1, none⟩ = some (.int .i32 y.r) := Zy.i (i := 1) rfl; have qy2 : wq.cell? ⟨w.heap.size + 1 + 1, 2, none⟩ = some (.int .i32 y.ax) := Zy.i (i := 2) rfl; have qy3 : wq.cell? ⟨w.heap.size + 1 + 1, 3, none⟩ = some (.int .i32 y.ay) := Zy.i (i := 3) rfl; have qy4 : wq.cell? ⟨w.heap.size + 1 + 1, 4, none⟩ = some (.int .i32 y.m) := Zy.i (i := 4) rfl; have qy5 : wq.cell? ⟨w.heap.size + 1 + 1, 5, none⟩ = some (.int .i32 y.o) := Zy.i (i := 5) rfl; have qy6 : wq.cell? ⟨w.heap.size + 1 + 1, 6, none⟩ = some (.int .i32 y.px) := Zy.i (i := 6) rfl; have qy7 : wq.cell? ⟨w.heap.size + 1 + 1, 7, none⟩ = some (.int .i32 y.py) := Zy.i (i := 7) rfl; have qy8 : wq.cell? ⟨w.heap.size + 1 + 1, 8, none⟩ = some (.int .i32 y.vx) := Zy.i (i := 8) rfl; have qy9 : wq.cell? ⟨w.heap.size + 1 + 1, 9, none⟩ = some (.int .i32 y.vy) := Zy.i (i := 9) rfl; have qzy := Zy.lt; go_simp; (try with_reducible rfl))
  refine rtk 1 (oi := ⟨some 19, .load 32 (.tmp 5), _, _, _, none⟩) (v := ?_) rfl ?_ hH ?_
  rotate_left
  · (intro wq hSw; (try dsimp only at hSw); obtain ⟨Zc, Zx, Zy, -⟩ := hSw; have qc0 : wq.cell? ⟨w.heap.size, 0, none⟩ = some (.int .u32 lo) := Zc.i (i := 0) rfl; have qc1 : wq.cell? ⟨w.heap.size, 1, none⟩ = some (.int .u32 hi) := Zc.i (i := 1) rfl; have qc2 : wq.cell? ⟨w.heap.size, 2, none⟩ = some (.int .i32 nx) := Zc.i (i := 2) rfl; have qc3 : wq.cell? ⟨w.heap.size, 3, none⟩ = some (.int .i32 ny) := Zc.i (i := 3) rfl; have qc4 : wq.cell? ⟨w.heap.size, 4, none⟩ = some (.int .i32 dp) := Zc.i (i := 4) rfl; have qzc := Zc.lt; have qx0 : wq.cell? ⟨w.heap.size + 1, 0, none⟩ = some (.int .u32 x.k) := Zx.i (i := 0) rfl; have qx1 : wq.cell? ⟨w.heap.size + 1, 1, none⟩ = some (.int .i32 x.r) := Zx.i (i := 1) rfl; have qx2 : wq.cell? ⟨w.heap.size + 1, 2, none⟩ = some (.int .i32 x.ax) := Zx.i (i := 2) rfl; have qx3 : wq.cell? ⟨w.heap.size + 1, 3, none⟩ = some (.int .i32 x.ay) := Zx.i (i := 3) rfl; have qx4 : wq.cell? ⟨w.heap.size + 1, 4, none⟩ = some (.int .i32 x.m) := Zx.i (i := 4) rfl; have qx5 : wq.cell? ⟨w.heap.size + 1, 5, none⟩ = some (.int .i32 x.o) := Zx.i (i := 5) rfl; have qx6 : wq.cell? ⟨w.heap.size + 1, 6, none⟩ = some (.int .i32 x.px) := Zx.i (i := 6) rfl; have qx7 : wq.cell? ⟨w.heap.size + 1, 7, none⟩ = some (.int .i32 x.py) := Zx.i (i := 7) rfl; have qx8 : wq.cell? ⟨w.heap.size + 1, 8, none⟩ = some (.int .i32 x.vx) := Zx.i (i := 8) rfl; have qx9 : wq.cell? ⟨w.heap.size + 1, 9, none⟩ = some (.int .i32 x.vy) := Zx.i (i := 9) rfl; have qzx := Zx.lt; have qy0 : wq.cell? ⟨w.heap.size + 1 + 1, 0, none⟩ = some (.int .u32 y.k) := Zy.i (i := 0) rfl; have qy1 : wq.cell? ⟨w.heap.size + 1 + 1, 1, none⟩ = some (.int .i32 y.r) := Zy.i (i := 1) rfl; have qy2 : wq.cell? ⟨w.heap.size + 1 + 1, 2, none⟩ = some (.int .i32 y.ax) := Zy.i (i := 2) rfl; have qy3 : wq.cell? ⟨w.heap.size + 1 + 1, 3, none⟩ = some (.int .i32 y.ay) := Zy.i (i := 3) rfl; have qy4 : wq.cell? ⟨w.heap.size + 1 + 1, 4, none⟩ = some (.int .i32 y.m) := Zy.i (i := 4) rfl; have qy5 : wq.cell? ⟨w.heap.size + 1 + 1, 5, none⟩ = some (.int .i32 y.o) := Zy.i (i := 5) rfl; have qy6 : wq.cell? ⟨w.heap.size + 1 + 1, 6, none⟩ = some (.int .i32 y.px) := Zy.i (i := 6) rfl; have qy7 : wq.cell? ⟨w.heap.size + 1 + 1, 7, none⟩ = some (.int .i32 y.py) := Zy.i (i := 7) rfl; have qy8 : wq.cell? ⟨w.heap.size + 1 + 1, 8, none⟩ = some (.int .i32 y.vx) := Zy.i (i := 8) rfl; have qy9 : wq.cell? ⟨w.heap.size + 1 + 1, 9, none⟩ = some (.int .i32 y.vy) := Zy.i (i := 9) rfl; have qzy := Zy.lt; go_simp; (try with_reducible rfl))
  refine rtk 2 (oi := ⟨some 20, .load 32 (.tmp 6), _, _, _, none⟩) (v := ?_) rfl ?_ hH ?_
  rotate_left
  · (intro wq hSw; (try dsimp only at hSw); obtain ⟨Zc, Zx, Zy, -⟩ := hSw; have qc0 : wq.cell? ⟨w.heap.size, 0, none⟩ = some (.int .u32 lo) := Zc.i (i := 0) rfl; have qc1 : wq.cell? ⟨w.heap.size, 1, none⟩ = some (.int .u32 hi) := Zc.i (i := 1) rfl; have qc2 : wq.cell? ⟨w.heap.size, 2, none⟩ = some (.int .i32 nx) := Zc.i (i := 2) rfl; have qc3 : wq.cell? ⟨w.heap.size, 3, none⟩ = some (.int .i32 ny) := Zc.i (i := 3) rfl; have qc4 : wq.cell? ⟨w.heap.size, 4, none⟩ = some (.int .i32 dp) := Zc.i (i := 4) rfl; have qzc := Zc.lt; have qx0 : wq.cell? ⟨w.heap.size + 1, 0, none⟩ = some (.int .u32 x.k) := Zx.i (i := 0) rfl; have qx1 : wq.cell? ⟨w.heap.size + 1, 1, none⟩ = some (.int .i32 x.r) := Zx.i (i := 1) rfl; have qx2 : wq.cell? ⟨w.heap.size + 1, 2, none⟩ = some (.int .i32 x.ax) := Zx.i (i := 2) rfl; have qx3 : wq.cell? ⟨w.heap.size + 1, 3, none⟩ = some (.int .i32 x.ay) := Zx.i (i := 3) rfl; have qx4 : wq.cell? ⟨w.heap.size + 1, 4, none⟩ = some (.int .i32 x.m) := Zx.i (i := 4) rfl; have qx5 : wq.cell? ⟨w.heap.size + 1, 5, none⟩ = some (.int .i32 x.o) := Zx.i (i := 5) rfl; have qx6 : wq.cell? ⟨w.heap.size + 1, 6, none⟩ = some (.int .i32 x.px) := Zx.i (i := 6) rfl; have qx7 : wq.cell? ⟨w.heap.size + 1, 7, none⟩ = some (.int .i32 x.py) := Zx.i (i := 7) rfl; have qx8 : wq.cell? ⟨w.heap.size + 1, 8, none⟩ = some (.int .i32 x.vx) := Zx.i (i := 8) rfl; have qx9 : wq.cell? ⟨w.heap.size + 1, 9, none⟩ = some (.int .i32 x.vy) := Zx.i (i := 9) rfl; have qzx := Zx.lt; have qy0 : wq.cell? ⟨w.heap.size + 1 + 1, 0, none⟩ = some (.int .u32 y.k) := Zy.i (i := 0) rfl; have qy1 : wq.cell? ⟨w.heap.size + 1 + 1, 1, none⟩ = some (.int .i32 y.r) := Zy.i (i := 1) rfl; have qy2 : wq.cell? ⟨w.heap.size + 1 + 1, 2, none⟩ = some (.int .i32 y.ax) := Zy.i (i := 2) rfl; have qy3 : wq.cell? ⟨w.heap.size + 1 + 1, 3, none⟩ = some (.int .i32 y.ay) := Zy.i (i := 3) rfl; have qy4 : wq.cell? ⟨w.heap.size + 1 + 1, 4, none⟩ = some (.int .i32 y.m) := Zy.i (i := 4) rfl; have qy5 : wq.cell? ⟨w.heap.size + 1 + 1, 5, none⟩ = some (.int .i32 y.o) := Zy.i (i := 5) rfl; have qy6 : wq.cell? ⟨w.heap.size + 1 + 1, 6, none⟩ = some (.int .i32 y.px) := Zy.i (i := 6) rfl; have qy7 : wq.cell? ⟨w.heap.size + 1 + 1, 7, none⟩ = some (.int .i32 y.py) := Zy.i (i := 7) rfl; have qy8 : wq.cell? ⟨w.heap.size + 1 + 1, 8, none⟩ = some (.int .i32 y.vx) := Zy.i (i := 8) rfl; have qy9 : wq.cell? ⟨w.heap.size + 1 + 1, 9, none⟩ = some (.int .i32 y.vy) := Zy.i (i := 9) rfl; have qzy := Zy.lt; go_simp; (try with_reducible rfl))
  refine rtk 4 (oi := ⟨some 22, .move (.tmp 9), _, _, _, none⟩) (v := ?_) rfl ?_ hH ?_
  rotate_left
  · (intro wq hSw; (try dsimp only at hSw); go_simp; (try with_reducible rfl))
  try simp only [Act.put, List.setIfInBounds_toArray, List.set_cons_zero, List.set_cons_succ]
  refine rtk 5 (oi := ⟨some 23, .convert 21 2 (.tmp 22), _, _, _, none⟩) (v := ?_) rfl ?_ hH ?_
  rotate_left
  · (intro wq hSw; (try dsimp only at hSw); go_simp; (try with_reducible rfl))
  refine rtk 6 (oi := ⟨some 24, .fieldAddr 32 (.tmp 5) 3, _, _, _, none⟩) (v := ?_) rfl ?_ hH ?_
  rotate_left
  · (intro wq hSw; (try dsimp only at hSw); go_simp; (try with_reducible rfl))
  refine rtk 7 (oi := ⟨some 25, .load 21 (.tmp 24), _, _, _, none⟩) (v := ?_) rfl ?_ hH ?_
  rotate_left
  · (intro wq hSw; (try dsimp only at hSw); obtain ⟨Zc, Zx, Zy, -⟩ := hSw; have qc0 : wq.cell? ⟨w.heap.size, 0, none⟩ = some (.int .u32 lo) := Zc.i (i := 0) rfl; have qc1 : wq.cell? ⟨w.heap.size, 1, none⟩ = some (.int .u32 hi) := Zc.i (i := 1) rfl; have qc2 : wq.cell? ⟨w.heap.size, 2, none⟩ = some (.int .i32 nx) := Zc.i (i := 2) rfl; have qc3 : wq.cell? ⟨w.heap.size, 3, none⟩ = some (.int .i32 ny) := Zc.i (i := 3) rfl; have qc4 : wq.cell? ⟨w.heap.size, 4, none⟩ = some (.int .i32 dp) := Zc.i (i := 4) rfl; have qzc := Zc.lt; have qx0 : wq.cell? ⟨w.heap.size + 1, 0, none⟩ = some (.int .u32 x.k) := Zx.i (i := 0) rfl; have qx1 : wq.cell? ⟨w.heap.size + 1, 1, none⟩ = some (.int .i32 x.r) := Zx.i (i := 1) rfl; have qx2 : wq.cell? ⟨w.heap.size + 1, 2, none⟩ = some (.int .i32 x.ax) := Zx.i (i := 2) rfl; have qx3 : wq.cell? ⟨w.heap.size + 1, 3, none⟩ = some (.int .i32 x.ay) := Zx.i (i := 3) rfl; have qx4 : wq.cell? ⟨w.heap.size + 1, 4, none⟩ = some (.int .i32 x.m) := Zx.i (i := 4) rfl; have qx5 : wq.cell? ⟨w.heap.size + 1, 5, none⟩ = some (.int .i32 x.o) := Zx.i (i := 5) rfl; have qx6 : wq.cell? ⟨w.heap.size + 1, 6, none⟩ = some (.int .i32 x.px) := Zx.i (i := 6) rfl; have qx7 : wq.cell? ⟨w.heap.size + 1, 7, none⟩ = some (.int .i32 x.py) := Zx.i (i := 7) rfl; have qx8 : wq.cell? ⟨w.heap.size + 1, 8, none⟩ = some (.int .i32 x.vx) := Zx.i (i := 8) rfl; have qx9 : wq.cell? ⟨w.heap.size + 1, 9, none⟩ = some (.int .i32 x.vy) := Zx.i (i := 9) rfl; have qzx := Zx.lt; have qy0 : wq.cell? ⟨w.heap.size + 1 + 1, 0, none⟩ = some (.int .u32 y.k) := Zy.i (i := 0) rfl; have qy1 : wq.cell? ⟨w.heap.size + 1 + 1, 1, none⟩ = some (.int .i32 y.r) := Zy.i (i := 1) rfl; have qy2 : wq.cell? ⟨w.heap.size + 1 + 1, 2, none⟩ = some (.int .i32 y.ax) := Zy.i (i := 2) rfl; have qy3 : wq.cell? ⟨w.heap.size + 1 + 1, 3, none⟩ = some (.int .i32 y.ay) := Zy.i (i := 3) rfl; have qy4 : wq.cell? ⟨w.heap.size + 1 + 1, 4, none⟩ = some (.int .i32 y.m) := Zy.i (i := 4) rfl; have qy5 : wq.cell? ⟨w.heap.size + 1 + 1, 5, none⟩ = some (.int .i32 y.o) := Zy.i (i := 5) rfl; have qy6 : wq.cell? ⟨w.heap.size + 1 + 1, 6, none⟩ = some (.int .i32 y.px) := Zy.i (i := 6) rfl; have qy7 : wq.cell? ⟨w.heap.size + 1 + 1, 7, none⟩ = some (.int .i32 y.py) := Zy.i (i := 7) rfl; have qy8 : wq.cell? ⟨w.heap.size + 1 + 1, 8, none⟩ = some (.int .i32 y.vx) := Zy.i (i := 8) rfl; have qy9 : wq.cell? ⟨w.heap.size + 1 + 1, 9, none⟩ = some (.int .i32 y.vy) := Zy.i (i := 9) rfl; have qzy := Zy.lt; go_simp; (try with_reducible rfl))
  refine rtk 8 (oi := ⟨some 26, .convert 21 2 (.tmp 25), _, _, _, none⟩) (v := ?_) rfl ?_ hH ?_
  rotate_left
  · (intro wq hSw; (try dsimp only at hSw); go_simp; (try with_reducible rfl))
  try simp only [Act.put, List.setIfInBounds_toArray, List.set_cons_zero, List.set_cons_succ]
  refine rtk 9 (oi := ⟨some 27, .fieldAddr 32 (.tmp 6) 3, _, _, _, none⟩) (v := ?_) rfl ?_ hH ?_
  rotate_left
  · (intro wq hSw; (try dsimp only at hSw); go_simp; (try with_reducible rfl))
  refine rtk 10 (oi := ⟨some 28, .load 21 (.tmp 27), _, _, _, none⟩) (v := ?_) rfl ?_ hH ?_
  rotate_left
  · (intro wq hSw; (try dsimp only at hSw); obtain ⟨Zc, Zx, Zy, -⟩ := hSw; have qc0 : wq.cell? ⟨w.heap.size, 0, none⟩ = some (.int .u32 lo) := Zc.i (i := 0) rfl; have qc1 : wq.cell? ⟨w.heap.size, 1, none⟩ = some (.int .u32 hi) := Zc.i (i := 1) rfl; have qc2 : wq.cell? ⟨w.heap.size, 2, none⟩ = some (.int .i32 nx) := Zc.i (i := 2) rfl; have qc3 : wq.cell? ⟨w.heap.size, 3, none⟩ = some (.int .i32 ny) := Zc.i (i := 3) rfl; have qc4 : wq.cell? ⟨w.heap.size, 4, none⟩ = some (.int .i32 dp) := Zc.i (i := 4) rfl; have qzc := Zc.lt; have qx0 : wq.cell? ⟨w.heap.size + 1, 0, none⟩ = some (.int .u32 x.k) := Zx.i (i := 0) rfl; have qx1 : wq.cell? ⟨w.heap.size + 1, 1, none⟩ = some (.int .i32 x.r) := Zx.i (i := 1) rfl; have qx2 : wq.cell? ⟨w.heap.size + 1, 2, none⟩ = some (.int .i32 x.ax) := Zx.i (i := 2) rfl; have qx3 : wq.cell? ⟨w.heap.size + 1, 3, none⟩ = some (.int .i32 x.ay) := Zx.i (i := 3) rfl; have qx4 : wq.cell? ⟨w.heap.size + 1, 4, none⟩ = some (.int .i32 x.m) := Zx.i (i := 4) rfl; have qx5 : wq.cell? ⟨w.heap.size + 1, 5, none⟩ = some (.int .i32 x.o) := Zx.i (i := 5) rfl; have qx6 : wq.cell? ⟨w.heap.size + 1, 6, none⟩ = some (.int .i32 x.px) := Zx.i (i := 6) rfl; have qx7 : wq.cell? ⟨w.heap.size + 1, 7, none⟩ = some (.int .i32 x.py) := Zx.i (i := 7) rfl; have qx8 : wq.cell? ⟨w.heap.size + 1, 8, none⟩ = some (.int .i32 x.vx) := Zx.i (i := 8) rfl; have qx9 : wq.cell? ⟨w.heap.size + 1, 9, none⟩ = some (.int .i32 x.vy) := Zx.i (i := 9) rfl; have qzx := Zx.lt; have qy0 : wq.cell? ⟨w.heap.size + 1 + 1, 0, none⟩ = some (.int .u32 y.k) := Zy.i (i := 0) rfl; have qy1 : wq.cell? ⟨w.heap.size + 1 + 1, 1, none⟩ = some (.int .i32 y.r) := Zy.i (i := 1) rfl; have qy2 : wq.cell? ⟨w.heap.size + 1 + 1, 2, none⟩ = some (.int .i32 y.ax) := Zy.i (i := 2) rfl; have qy3 : wq.cell? ⟨w.heap.size + 1 + 1, 3, none⟩ = some (.int .i32 y.ay) := Zy.i (i := 3) rfl; have qy4 : wq.cell? ⟨w.heap.size + 1 + 1, 4, none⟩ = some (.int .i32 y.m) := Zy.i (i := 4) rfl; have qy5 : wq.cell? ⟨w.heap.size + 1 + 1, 5, none⟩ = some (.int .i32 y.o) := Zy.i (i := 5) rfl; have qy6 : wq.cell? ⟨w.heap.size + 1 + 1, 6, none⟩ = some (.int .i32 y.px) := Zy.i (i := 6) rfl; have qy7 : wq.cell? ⟨w.heap.size + 1 + 1, 7, none⟩ = some (.int .i32 y.py) := Zy.i (i := 7) rfl; have qy8 : wq.cell? ⟨w.heap.size + 1 + 1, 8, none⟩ = some (.int .i32 y.vx) := Zy.i (i := 8) rfl; have qy9 : wq.cell? ⟨w.heap.size + 1 + 1, 9, none⟩ = some (.int .i32 y.vy) := Zy.i (i := 9) rfl; have qzy := Zy.lt; go_simp; (try with_reducible rfl))
  refine rtk 11 (oi := ⟨some 29, .convert 21 2 (.tmp 28), _, _, _, none⟩) (v := ?_) rfl ?_ hH ?_
  rotate_left
  · (intro wq hSw; (try dsimp only at hSw); go_simp; (try with_reducible rfl))
  refine rtk 12 (oi := ⟨some 30, .binOp .add 2 (.tmp 26) (.tmp 29) 2, _, _, _, none⟩) (v := ?_) rfl ?_ hH ?_
  rotate_left
  · (intro wq hSw; (try dsimp only at hSw); go_simp; (try with_reducible rfl))
  try simp only [Act.put, List.setIfInBounds_toArray, List.set_cons_zero, List.set_cons_succ]
  refine wpAnyH_ready (rs := [3]) (by kernel_rfl) (by simp) ?_
  refine AllReadyH.cons (o := ⟨some 21, .call { callee := .value (.func 12), args := #[.tmp 18, .tmp 19, .tmp 20], argTypes := #[37, 32, 32] }, _, _, _, none⟩) rfl (fun K hK => ?_) AllReadyH.nil
  go_simp
  (with_reducible refine (C1.out _).mono ?_); rintro e v4_3 ⟨rfl, g⟩
  refine hK.out _ _ (by (try dsimp only); obtain ⟨Zc, Zx, Zy, gg⟩ := id hH; exact ⟨Zc.kep g, Zx.kep g, Zy.kep g, kep_next gg g⟩) (fun hH2 => ?_)
  clear hK K hH; have hH := hH2; clear hH2
  try simp only [Act.put, List.setIfInBounds_toArray, List.set_cons_zero, List.set_cons_succ]
  refine wpAnyH_ready (rs := [13]) (by kernel_rfl) (by simp) ?_
  refine AllReadyH.cons (o := ⟨some 31, .call { callee := .value (.func 26), args := #[.tmp 21, .tmp 23, .tmp 30], argTypes := #[2, 2, 2] }, _, _, _, none⟩) rfl (fun K hK => ?_) AllReadyH.nil
  go_simp
  (with_reducible refine (C2.out _).mono ?_); rintro e v4_13 ⟨rfl, g⟩
  refine hK.out _ _ (by (try dsimp only); obtain ⟨Zc, Zx, Zy, gg⟩ := id hH; exact ⟨Zc.kep g, Zx.kep g, Zy.kep g, kep_next gg g⟩) (fun hH2 => ?_)
  clear hK K hH; have hH := hH2; clear hH2
  refine rtk 14 (oi := ⟨some 17, .move (.tmp 31), _, _, _, none⟩) (v := ?_) rfl ?_ hH ?_
  rotate_left
  · (intro wq hSw; (try dsimp only at hSw); go_simp; (try with_reducible rfl))
  refine rtk 15 (oi := ⟨some 32, .extract (.tmp 17) 0, _, _, _, none⟩) (v := ?_) rfl ?_ hH ?_
  rotate_left
  · (intro wq hSw; (try dsimp only at hSw); go_simp; (try with_reducible rfl))
  refine rtk 16 (oi := ⟨some 33, .extract (.tmp 17) 1, _, _, _, none⟩) (v := ?_) rfl ?_ hH ?_
  rotate_left
  · (intro wq hSw; (try dsimp only at hSw); go_simp; (try with_reducible rfl))
  try simp only [Act.put, List.setIfInBounds_toArray, List.set_cons_zero, List.set_cons_succ]
  refine rtk 17 (oi := ⟨some 10, .assign (.tmp 32), _, _, _, none⟩) (v := ?_) rfl ?_ hH ?_
  rotate_left
  · (intro wq hSw; (try dsimp only at hSw); go_simp; (try with_reducible rfl))
  refine rtk 18 (oi := ⟨some 11, .assign (.tmp 33), _, _, _, none⟩) (v := ?_) rfl ?_ hH ?_
  rotate_left
  · (intro wq hSw; (try dsimp only at hSw); go_simp; (try with_reducible rfl))
  try simp only [Act.put, List.setIfInBounds_toArray, List.set_cons_zero, List.set_cons_succ]
  refine wpAnyH_done (by kernel_rfl) ?_ _
  refine NoPanic.normal ?_
  obtain ⟨Zc, Zx, Zy, gg⟩ := hH
  go_wp2_with fail
  go_ret
  exact ⟨rfl, gg⟩
set_option maxRecDepth 100000 in
set_option maxHeartbeats 2000000 in
theorem csh_true {lo hi nx ny dp n s t e : Int} {x y : Bd} (X1 : CAm lo hi nx ny dp x y n) (X2 : KMdC n y.m s t e) (e1 : IntKind.i64.wrap x.m = x.m) (e2 : IntKind.i64.wrap y.m = y.m) (e3 : IntKind.i64.wrap (x.m + y.m) = s) : CSh lo hi nx ny dp x y true t := fun w => by
  have C1 := Lib.hid X1
  have C2 := Lib.hid X2
  clear X1 X2
  go_enter Try.func14, Try.ntmps14
  go_upto_region 4 with fail
  generalize hW : World.alloc (World.alloc (World.alloc w _) _) _ = W1
  have Zc : ZC W1 (w.heap.size) [.int .u32 lo, .int .u32 hi, .int .i32 nx, .int .i32 ny, .int .i32 dp] := by rw [← hW]; exact (ZC.more (ZC.more (zc_new' _ _ _ (by first | rfl | simp)) _) _)
  have Zx : ZC W1 (w.heap.size + 1) [.int .u32 x.k, .int .i32 x.r, .int .i32 x.ax, .int .i32 x.ay, .int .i32 x.m, .int .i32 x.o, .int .i32 x.px, .int .i32 x.py, .int .i32 x.vx, .int .i32 x.vy] := by rw [← hW]; exact (ZC.more (zc_new' _ _ _ (by first | rfl | simp)) _)
  have Zy : ZC W1 (w.heap.size + 1 + 1) [.int .u32 y.k, .int .i32 y.r, .int .i32 y.ax, .int .i32 y.ay, .int .i32 y.m, .int .i32 y.o, .int .i32 y.px, .int .i32 y.py, .int .i32 y.vx, .int .i32 y.vy] := by rw [← hW]; exact (zc_new' _ _ _ (by first | rfl | simp))
  have gg : Kep w.heap.size w W1 := by rw [← hW]; exact (kep_more (kep_more (kep_more (Kep.refl _ _) _) _) _)
  clear hW
  refine wp_region_noPanic ?_
  refine wp_region_held_drew (S := (fun w' => ZC w' (w.heap.size) [.int .u32 lo, .int .u32 hi, .int .i32 nx, .int .i32 ny, .int .i32 dp] ∧ ZC w' (w.heap.size + 1) [.int .u32 x.k, .int .i32 x.r, .int .i32 x.ax, .int .i32 x.ay, .int .i32 x.m, .int .i32 x.o, .int .i32 x.px, .int .i32 x.py, .int .i32 x.vx, .int .i32 x.vy] ∧ ZC w' (w.heap.size + 1 + 1) [.int .u32 y.k, .int .i32 y.r, .int .i32 y.ax, .int .i32 y.ay, .int .i32 y.m, .int .i32 y.o, .int .i32 y.px, .int .i32 y.py, .int .i32 y.vx, .int .i32 y.vy] ∧ Kep w.heap.size w w')) (by kernel_rfl) (⟨Zc.drew, Zx.drew, Zy.drew, kep_drew gg⟩) (fun hH => ?_)
  clear Zc Zx Zy gg
  refine rtk 0 (oi := ⟨some 18, .load 37 (.tmp 4), _, _, _, none⟩) (v := ?_) rfl ?_ hH ?_
  rotate_left
  · (intro wq hSw; (try dsimp only at hSw); obtain ⟨Zc, Zx, Zy, -⟩ := hSw; have qc0 : wq.cell? ⟨w.heap.size, 0, none⟩ = some (.int .u32 lo) := Zc.i (i := 0) rfl; have qc1 : wq.cell? ⟨w.heap.size, 1, none⟩ = some (.int .u32 hi) := Zc.i (i := 1) rfl; have qc2 : wq.cell? ⟨w.heap.size, 2, none⟩ = some (.int .i32 nx) := Zc.i (i := 2) rfl; have qc3 : wq.cell? ⟨w.heap.size, 3, none⟩ = some (.int .i32 ny) := Zc.i (i := 3) rfl; have qc4 : wq.cell? ⟨w.heap.size, 4, none⟩ = some (.int .i32 dp) := Zc.i (i := 4) rfl; have qzc := Zc.lt; have qx0 : wq.cell? ⟨w.heap.size + 1, 0, none⟩ = some (.int .u32 x.k) := Zx.i (i := 0) rfl; have qx1 : wq.cell? ⟨w.heap.size + 1, 1, none⟩ = some (.int .i32 x.r) := Zx.i (i := 1) rfl; have qx2 : wq.cell? ⟨w.heap.size + 1, 2, none⟩ = some (.int .i32 x.ax) := Zx.i (i := 2) rfl; have qx3 : wq.cell? ⟨w.heap.size + 1, 3, none⟩ = some (.int .i32 x.ay) := Zx.i (i := 3) rfl; have qx4 : wq.cell? ⟨w.heap.size + 1, 4, none⟩ = some (.int .i32 x.m) := Zx.i (i := 4) rfl; have qx5 : wq.cell? ⟨w.heap.size + 1, 5, none⟩ = some (.int .i32 x.o) := Zx.i (i := 5) rfl; have qx6 : wq.cell? ⟨w.heap.size + 1, 6, none⟩ = some (.int .i32 x.px) := Zx.i (i := 6) rfl; have qx7 : wq.cell? ⟨w.heap.size + 1, 7, none⟩ = some (.int .i32 x.py) := Zx.i (i := 7) rfl; have qx8 : wq.cell? ⟨w.heap.size + 1, 8, none⟩ = some (.int .i32 x.vx) := Zx.i (i := 8) rfl; have qx9 : wq.cell? ⟨w.heap.size + 1, 9, none⟩ = some (.int .i32 x.vy) := Zx.i (i := 9) rfl; have qzx := Zx.lt; have qy0 : wq.cell? ⟨w.heap.size + 1 + 1, 0, none⟩ = some (.int .u32 y.k) := Zy.i (i := 0) rfl; have qy1 : wq.cell? ⟨w.heap.size + 1 + 1, 1, none⟩ = some (.int .i32 y.r) := Zy.i (i := 1) rfl; have qy2 : wq.cell? ⟨w.heap.size + 1 + 1, 2, none⟩ = some (.int .i32 y.ax) := Zy.i (i := 2) rfl; have qy3 : wq.cell? ⟨w.heap.size + 1 + 1, 3, none⟩ = some (.int .i32 y.ay) := Zy.i (i := 3) rfl; have qy4 : wq.cell? ⟨w.heap.size + 1 + 1, 4, none⟩ = some (.int .i32 y.m) := Zy.i (i := 4) rfl; have qy5 : wq.cell? ⟨w.heap.size + 1 + 1, 5, none⟩ = some (.int .i32 y.o) := Zy.i (i := 5) rfl; have qy6 : wq.cell? ⟨w.heap.size + 1 + 1, 6, none⟩ = some (.int .i32 y.px) := Zy.i (i := 6) rfl; have qy7 : wq.cell? ⟨w.heap.size + 1 + 1, 7, none⟩ = some (.int .i32 y.py) := Zy.i (i := 7) rfl; have qy8 : wq.cell? ⟨w.heap.size + 1 + 1, 8, none⟩ = some (.int .i32 y.vx) := Zy.i (i := 8) rfl; have qy9 : wq.cell? ⟨w.heap.size + 1 + 1, 9, none⟩ = some (.int .i32 y.vy) := Zy.i (i := 9) rfl; have qzy := Zy.lt; go_simp; (try with_reducible rfl))
  refine rtk 1 (oi := ⟨some 19, .load 32 (.tmp 5), _, _, _, none⟩) (v := ?_) rfl ?_ hH ?_
  rotate_left
  · (intro wq hSw; (try dsimp only at hSw); obtain ⟨Zc, Zx, Zy, -⟩ := hSw; have qc0 : wq.cell? ⟨w.heap.size, 0, none⟩ = some (.int .u32 lo) := Zc.i (i := 0) rfl; have qc1 : wq.cell? ⟨w.heap.size, 1, none⟩ = some (.int .u32 hi) := Zc.i (i := 1) rfl; have qc2 : wq.cell? ⟨w.heap.size, 2, none⟩ = some (.int .i32 nx) := Zc.i (i := 2) rfl; have qc3 : wq.cell? ⟨w.heap.size, 3, none⟩ = some (.int .i32 ny) := Zc.i (i := 3) rfl; have qc4 : wq.cell? ⟨w.heap.size, 4, none⟩ = some (.int .i32 dp) := Zc.i (i := 4) rfl; have qzc := Zc.lt; have qx0 : wq.cell? ⟨w.heap.size + 1, 0, none⟩ = some (.int .u32 x.k) := Zx.i (i := 0) rfl; have qx1 : wq.cell? ⟨w.heap.size + 1, 1, none⟩ = some (.int .i32 x.r) := Zx.i (i := 1) rfl; have qx2 : wq.cell? ⟨w.heap.size + 1, 2, none⟩ = some (.int .i32 x.ax) := Zx.i (i := 2) rfl; have qx3 : wq.cell? ⟨w.heap.size + 1, 3, none⟩ = some (.int .i32 x.ay) := Zx.i (i := 3) rfl; have qx4 : wq.cell? ⟨w.heap.size + 1, 4, none⟩ = some (.int .i32 x.m) := Zx.i (i := 4) rfl; have qx5 : wq.cell? ⟨w.heap.size + 1, 5, none⟩ = some (.int .i32 x.o) := Zx.i (i := 5) rfl; have qx6 : wq.cell? ⟨w.heap.size + 1, 6, none⟩ = some (.int .i32 x.px) := Zx.i (i := 6) rfl; have qx7 : wq.cell? ⟨w.heap.size + 1, 7, none⟩ = some (.int .i32 x.py) := Zx.i (i := 7) rfl; have qx8 : wq.cell? ⟨w.heap.size + 1, 8, none⟩ = some (.int .i32 x.vx) := Zx.i (i := 8) rfl; have qx9 : wq.cell? ⟨w.heap.size + 1, 9, none⟩ = some (.int .i32 x.vy) := Zx.i (i := 9) rfl; have qzx := Zx.lt; have qy0 : wq.cell? ⟨w.heap.size + 1 + 1, 0, none⟩ = some (.int .u32 y.k) := Zy.i (i := 0) rfl; have qy1 : wq.cell? ⟨w.heap.size + 1 + 1, 1, none⟩ = some (.int .i32 y.r) := Zy.i (i := 1) rfl; have qy2 : wq.cell? ⟨w.heap.size + 1 + 1, 2, none⟩ = some (.int .i32 y.ax) := Zy.i (i := 2) rfl; have qy3 : wq.cell? ⟨w.heap.size + 1 + 1, 3, none⟩ = some (.int .i32 y.ay) := Zy.i (i := 3) rfl; have qy4 : wq.cell? ⟨w.heap.size + 1 + 1, 4, none⟩ = some (.int .i32 y.m) := Zy.i (i := 4) rfl; have qy5 : wq.cell? ⟨w.heap.size + 1 + 1, 5, none⟩ = some (.int .i32 y.o) := Zy.i (i := 5) rfl; have qy6 : wq.cell? ⟨w.heap.size + 1 + 1, 6, none⟩ = some (.int .i32 y.px) := Zy.i (i := 6) rfl; have qy7 : wq.cell? ⟨w.heap.size + 1 + 1, 7, none⟩ = some (.int .i32 y.py) := Zy.i (i := 7) rfl; have qy8 : wq.cell? ⟨w.heap.size + 1 + 1, 8, none⟩ = some (.int .i32 y.vx) := Zy.i (i := 8) rfl; have qy9 : wq.cell? ⟨w.heap.size + 1 + 1, 9, none⟩ = some (.int .i32 y.vy) := Zy.i (i := 9) rfl; have qzy := Zy.lt; go_simp; (try with_reducible rfl))
  refine rtk 2 (oi := ⟨some 20, .load 32 (.tmp 6), _, _, _, none⟩) (v := ?_) rfl ?_ hH ?_
  rotate_left
  · (intro wq hSw; (try dsimp only at hSw); obtain ⟨Zc, Zx, Zy, -⟩ := hSw; have qc0 : wq.cell? ⟨w.heap.size, 0, none⟩ = some (.int .u32 lo) := Zc.i (i := 0) rfl; have qc1 : wq.cell? ⟨w.heap.size, 1, none⟩ = some (.int .u32 hi) := Zc.i (i := 1) rfl; have qc2 : wq.cell? ⟨w.heap.size, 2, none⟩ = some (.int .i32 nx) := Zc.i (i := 2) rfl; have qc3 : wq.cell? ⟨w.heap.size, 3, none⟩ = some (.int .i32 ny) := Zc.i (i := 3) rfl; have qc4 : wq.cell? ⟨w.heap.size, 4, none⟩ = some (.int .i32 dp) := Zc.i (i := 4) rfl; have qzc := Zc.lt; have qx0 : wq.cell? ⟨w.heap.size + 1, 0, none⟩ = some (.int .u32 x.k) := Zx.i (i := 0) rfl; have qx1 : wq.cell? ⟨w.heap.size + 1, 1, none⟩ = some (.int .i32 x.r) := Zx.i (i := 1) rfl; have qx2 : wq.cell? ⟨w.heap.size + 1, 2, none⟩ = some (.int .i32 x.ax) := Zx.i (i := 2) rfl; have qx3 : wq.cell? ⟨w.heap.size + 1, 3, none⟩ = some (.int .i32 x.ay) := Zx.i (i := 3) rfl; have qx4 : wq.cell? ⟨w.heap.size + 1, 4, none⟩ = some (.int .i32 x.m) := Zx.i (i := 4) rfl; have qx5 : wq.cell? ⟨w.heap.size + 1, 5, none⟩ = some (.int .i32 x.o) := Zx.i (i := 5) rfl; have qx6 : wq.cell? ⟨w.heap.size + 1, 6, none⟩ = some (.int .i32 x.px) := Zx.i (i := 6) rfl; have qx7 : wq.cell? ⟨w.heap.size + 1, 7, none⟩ = some (.int .i32 x.py) := Zx.i (i := 7) rfl; have qx8 : wq.cell? ⟨w.heap.size + 1, 8, none⟩ = some (.int .i32 x.vx) := Zx.i (i := 8) rfl; have qx9 : wq.cell? ⟨w.heap.size + 1, 9, none⟩ = some (.int .i32 x.vy) := Zx.i (i := 9) rfl; have qzx := Zx.lt; have qy0 : wq.cell? ⟨w.heap.size + 1 + 1, 0, none⟩ = some (.int .u32 y.k) := Zy.i (i := 0) rfl; have qy1 : wq.cell? ⟨w.heap.size + 1 + 1, 1, none⟩ = some (.int .i32 y.r) := Zy.i (i := 1) rfl; have qy2 : wq.cell? ⟨w.heap.size + 1 + 1, 2, none⟩ = some (.int .i32 y.ax) := Zy.i (i := 2) rfl; have qy3 : wq.cell? ⟨w.heap.size + 1 + 1, 3, none⟩ = some (.int .i32 y.ay) := Zy.i (i := 3) rfl; have qy4 : wq.cell? ⟨w.heap.size + 1 + 1, 4, none⟩ = some (.int .i32 y.m) := Zy.i (i := 4) rfl; have qy5 : wq.cell? ⟨w.heap.size + 1 + 1, 5, none⟩ = some (.int .i32 y.o) := Zy.i (i := 5) rfl; have qy6 : wq.cell? ⟨w.heap.size + 1 + 1, 6, none⟩ = some (.int .i32 y.px) := Zy.i (i := 6) rfl; have qy7 : wq.cell? ⟨w.heap.size + 1 + 1, 7, none⟩ = some (.int .i32 y.py) := Zy.i (i := 7) rfl; have qy8 : wq.cell? ⟨w.heap.size + 1 + 1, 8, none⟩ = some (.int .i32 y.vx) := Zy.i (i := 8) rfl; have qy9 : wq.cell? ⟨w.heap.size + 1 + 1, 9, none⟩ = some (.int .i32 y.vy) := Zy.i (i := 9) rfl; have qzy := Zy.lt; go_simp; (try with_reducible rfl))
  refine rtk 4 (oi := ⟨some 22, .move (.tmp 9), _, _, _, none⟩) (v := ?_) rfl ?_ hH ?_
  rotate_left
  · (intro wq hSw; (try dsimp only at hSw); go_simp; (try with_reducible rfl))
  try simp only [Act.put, List.setIfInBounds_toArray, List.set_cons_zero, List.set_cons_succ]
  refine rtk 5 (oi := ⟨some 23, .convert 21 2 (.tmp 22), _, _, _, none⟩) (v := ?_) rfl ?_ hH ?_
  rotate_left
  · (intro wq hSw; (try dsimp only at hSw); go_simp; (try with_reducible rfl))
  refine rtk 6 (oi := ⟨some 24, .fieldAddr 32 (.tmp 5) 3, _, _, _, none⟩) (v := ?_) rfl ?_ hH ?_
  rotate_left
  · (intro wq hSw; (try dsimp only at hSw); go_simp; (try with_reducible rfl))
  refine rtk 7 (oi := ⟨some 25, .load 21 (.tmp 24), _, _, _, none⟩) (v := ?_) rfl ?_ hH ?_
  rotate_left
  · (intro wq hSw; (try dsimp only at hSw); obtain ⟨Zc, Zx, Zy, -⟩ := hSw; have qc0 : wq.cell? ⟨w.heap.size, 0, none⟩ = some (.int .u32 lo) := Zc.i (i := 0) rfl; have qc1 : wq.cell? ⟨w.heap.size, 1, none⟩ = some (.int .u32 hi) := Zc.i (i := 1) rfl; have qc2 : wq.cell? ⟨w.heap.size, 2, none⟩ = some (.int .i32 nx) := Zc.i (i := 2) rfl; have qc3 : wq.cell? ⟨w.heap.size, 3, none⟩ = some (.int .i32 ny) := Zc.i (i := 3) rfl; have qc4 : wq.cell? ⟨w.heap.size, 4, none⟩ = some (.int .i32 dp) := Zc.i (i := 4) rfl; have qzc := Zc.lt; have qx0 : wq.cell? ⟨w.heap.size + 1, 0, none⟩ = some (.int .u32 x.k) := Zx.i (i := 0) rfl; have qx1 : wq.cell? ⟨w.heap.size + 1, 1, none⟩ = some (.int .i32 x.r) := Zx.i (i := 1) rfl; have qx2 : wq.cell? ⟨w.heap.size + 1, 2, none⟩ = some (.int .i32 x.ax) := Zx.i (i := 2) rfl; have qx3 : wq.cell? ⟨w.heap.size + 1, 3, none⟩ = some (.int .i32 x.ay) := Zx.i (i := 3) rfl; have qx4 : wq.cell? ⟨w.heap.size + 1, 4, none⟩ = some (.int .i32 x.m) := Zx.i (i := 4) rfl; have qx5 : wq.cell? ⟨w.heap.size + 1, 5, none⟩ = some (.int .i32 x.o) := Zx.i (i := 5) rfl; have qx6 : wq.cell? ⟨w.heap.size + 1, 6, none⟩ = some (.int .i32 x.px) := Zx.i (i := 6) rfl; have qx7 : wq.cell? ⟨w.heap.size + 1, 7, none⟩ = some (.int .i32 x.py) := Zx.i (i := 7) rfl; have qx8 : wq.cell? ⟨w.heap.size + 1, 8, none⟩ = some (.int .i32 x.vx) := Zx.i (i := 8) rfl; have qx9 : wq.cell? ⟨w.heap.size + 1, 9, none⟩ = some (.int .i32 x.vy) := Zx.i (i := 9) rfl; have qzx := Zx.lt; have qy0 : wq.cell? ⟨w.heap.size + 1 + 1, 0, none⟩ = some (.int .u32 y.k) := Zy.i (i := 0) rfl; have qy1 : wq.cell? ⟨w.heap.size + 1 + 1, 1, none⟩ = some (.int .i32 y.r) := Zy.i (i := 1) rfl; have qy2 : wq.cell? ⟨w.heap.size + 1 + 1, 2, none⟩ = some (.int .i32 y.ax) := Zy.i (i := 2) rfl; have qy3 : wq.cell? ⟨w.heap.size + 1 + 1, 3, none⟩ = some (.int .i32 y.ay) := Zy.i (i := 3) rfl; have qy4 : wq.cell? ⟨w.heap.size + 1 + 1, 4, none⟩ = some (.int .i32 y.m) := Zy.i (i := 4) rfl; have qy5 : wq.cell? ⟨w.heap.size + 1 + 1, 5, none⟩ = some (.int .i32 y.o) := Zy.i (i := 5) rfl; have qy6 : wq.cell? ⟨w.heap.size + 1 + 1, 6, none⟩ = some (.int .i32 y.px) := Zy.i (i := 6) rfl; have qy7 : wq.cell? ⟨w.heap.size + 1 + 1, 7, none⟩ = some (.int .i32 y.py) := Zy.i (i := 7) rfl; have qy8 : wq.cell? ⟨w.heap.size + 1 + 1, 8, none⟩ = some (.int .i32 y.vx) := Zy.i (i := 8) rfl; have qy9 : wq.cell? ⟨w.heap.size + 1 + 1, 9, none⟩ = some (.int .i32 y.vy) := Zy.i (i := 9) rfl; have qzy := Zy.lt; go_simp; (try with_reducible rfl))
  refine rtk 8 (oi := ⟨some 26, .convert 21 2 (.tmp 25), _, _, _, none⟩) (v := ?_) rfl ?_ hH ?_
  rotate_left
  · (intro wq hSw; (try dsimp only at hSw); go_simp; (try with_reducible rfl))
  try simp only [Act.put, List.setIfInBounds_toArray, List.set_cons_zero, List.set_cons_succ]
  refine rtk 9 (oi := ⟨some 27, .fieldAddr 32 (.tmp 6) 3, _, _, _, none⟩) (v := ?_) rfl ?_ hH ?_
  rotate_left
  · (intro wq hSw; (try dsimp only at hSw); go_simp; (try with_reducible rfl))
  refine rtk 10 (oi := ⟨some 28, .load 21 (.tmp 27), _, _, _, none⟩) (v := ?_) rfl ?_ hH ?_
  rotate_left
  · (intro wq hSw; (try dsimp only at hSw); obtain ⟨Zc, Zx, Zy, -⟩ := hSw; have qc0 : wq.cell? ⟨w.heap.size, 0, none⟩ = some (.int .u32 lo) := Zc.i (i := 0) rfl; have qc1 : wq.cell? ⟨w.heap.size, 1, none⟩ = some (.int .u32 hi) := Zc.i (i := 1) rfl; have qc2 : wq.cell? ⟨w.heap.size, 2, none⟩ = some (.int .i32 nx) := Zc.i (i := 2) rfl; have qc3 : wq.cell? ⟨w.heap.size, 3, none⟩ = some (.int .i32 ny) := Zc.i (i := 3) rfl; have qc4 : wq.cell? ⟨w.heap.size, 4, none⟩ = some (.int .i32 dp) := Zc.i (i := 4) rfl; have qzc := Zc.lt; have qx0 : wq.cell? ⟨w.heap.size + 1, 0, none⟩ = some (.int .u32 x.k) := Zx.i (i := 0) rfl; have qx1 : wq.cell? ⟨w.heap.size + 1, 1, none⟩ = some (.int .i32 x.r) := Zx.i (i := 1) rfl; have qx2 : wq.cell? ⟨w.heap.size + 1, 2, none⟩ = some (.int .i32 x.ax) := Zx.i (i := 2) rfl; have qx3 : wq.cell? ⟨w.heap.size + 1, 3, none⟩ = some (.int .i32 x.ay) := Zx.i (i := 3) rfl; have qx4 : wq.cell? ⟨w.heap.size + 1, 4, none⟩ = some (.int .i32 x.m) := Zx.i (i := 4) rfl; have qx5 : wq.cell? ⟨w.heap.size + 1, 5, none⟩ = some (.int .i32 x.o) := Zx.i (i := 5) rfl; have qx6 : wq.cell? ⟨w.heap.size + 1, 6, none⟩ = some (.int .i32 x.px) := Zx.i (i := 6) rfl; have qx7 : wq.cell? ⟨w.heap.size + 1, 7, none⟩ = some (.int .i32 x.py) := Zx.i (i := 7) rfl; have qx8 : wq.cell? ⟨w.heap.size + 1, 8, none⟩ = some (.int .i32 x.vx) := Zx.i (i := 8) rfl; have qx9 : wq.cell? ⟨w.heap.size + 1, 9, none⟩ = some (.int .i32 x.vy) := Zx.i (i := 9) rfl; have qzx := Zx.lt; have qy0 : wq.cell? ⟨w.heap.size + 1 + 1, 0, none⟩ = some (.int .u32 y.k) := Zy.i (i := 0) rfl; have qy1 : wq.cell? ⟨w.heap.size + 1 + 1, 1, none⟩ = some (.int .i32 y.r) := Zy.i (i := 1) rfl; have qy2 : wq.cell? ⟨w.heap.size + 1 + 1, 2, none⟩ = some (.int .i32 y.ax) := Zy.i (i := 2) rfl; have qy3 : wq.cell? ⟨w.heap.size + 1 + 1, 3, none⟩ = some (.int .i32 y.ay) := Zy.i (i := 3) rfl; have qy4 : wq.cell? ⟨w.heap.size + 1 + 1, 4, none⟩ = some (.int .i32 y.m) := Zy.i (i := 4) rfl; have qy5 : wq.cell? ⟨w.heap.size + 1 + 1, 5, none⟩ = some (.int .i32 y.o) := Zy.i (i := 5) rfl; have qy6 : wq.cell? ⟨w.heap.size + 1 + 1, 6, none⟩ = some (.int .i32 y.px) := Zy.i (i := 6) rfl; have qy7 : wq.cell? ⟨w.heap.size + 1 + 1, 7, none⟩ = some (.int .i32 y.py) := Zy.i (i := 7) rfl; have qy8 : wq.cell? ⟨w.heap.size + 1 + 1, 8, none⟩ = some (.int .i32 y.vx) := Zy.i (i := 8) rfl; have qy9 : wq.cell? ⟨w.heap.size + 1 + 1, 9, none⟩ = some (.int .i32 y.vy) := Zy.i (i := 9) rfl; have qzy := Zy.lt; go_simp; (try with_reducible rfl))
  refine rtk 11 (oi := ⟨some 29, .convert 21 2 (.tmp 28), _, _, _, none⟩) (v := ?_) rfl ?_ hH ?_
  rotate_left
  · (intro wq hSw; (try dsimp only at hSw); go_simp; (try with_reducible rfl))
  refine rtk 12 (oi := ⟨some 30, .binOp .add 2 (.tmp 26) (.tmp 29) 2, _, _, _, none⟩) (v := ?_) rfl ?_ hH ?_
  rotate_left
  · (intro wq hSw; (try dsimp only at hSw); go_simp; (try with_reducible rfl))
  try simp only [Act.put, List.setIfInBounds_toArray, List.set_cons_zero, List.set_cons_succ]
  refine wpAnyH_ready (rs := [3]) (by kernel_rfl) (by simp) ?_
  refine AllReadyH.cons (o := ⟨some 21, .call { callee := .value (.func 12), args := #[.tmp 18, .tmp 19, .tmp 20], argTypes := #[37, 32, 32] }, _, _, _, none⟩) rfl (fun K hK => ?_) AllReadyH.nil
  go_simp
  (with_reducible refine (C1.out _).mono ?_); rintro e v4_3 ⟨rfl, g⟩
  refine hK.out _ _ (by (try dsimp only); obtain ⟨Zc, Zx, Zy, gg⟩ := id hH; exact ⟨Zc.kep g, Zx.kep g, Zy.kep g, kep_next gg g⟩) (fun hH2 => ?_)
  clear hK K hH; have hH := hH2; clear hH2
  try simp only [Act.put, List.setIfInBounds_toArray, List.set_cons_zero, List.set_cons_succ]
  refine wpAnyH_ready (rs := [13]) (by kernel_rfl) (by simp) ?_
  refine AllReadyH.cons (o := ⟨some 31, .call { callee := .value (.func 26), args := #[.tmp 21, .tmp 23, .tmp 30], argTypes := #[2, 2, 2] }, _, _, _, none⟩) rfl (fun K hK => ?_) AllReadyH.nil
  go_simp
  (with_reducible refine (C2.out _).mono ?_); rintro e v4_13 ⟨rfl, g⟩
  refine hK.out _ _ (by (try dsimp only); obtain ⟨Zc, Zx, Zy, gg⟩ := id hH; exact ⟨Zc.kep g, Zx.kep g, Zy.kep g, kep_next gg g⟩) (fun hH2 => ?_)
  clear hK K hH; have hH := hH2; clear hH2
  refine rtk 14 (oi := ⟨some 17, .move (.tmp 31), _, _, _, none⟩) (v := ?_) rfl ?_ hH ?_
  rotate_left
  · (intro wq hSw; (try dsimp only at hSw); go_simp; (try with_reducible rfl))
  refine rtk 15 (oi := ⟨some 32, .extract (.tmp 17) 0, _, _, _, none⟩) (v := ?_) rfl ?_ hH ?_
  rotate_left
  · (intro wq hSw; (try dsimp only at hSw); go_simp; (try with_reducible rfl))
  refine rtk 16 (oi := ⟨some 33, .extract (.tmp 17) 1, _, _, _, none⟩) (v := ?_) rfl ?_ hH ?_
  rotate_left
  · (intro wq hSw; (try dsimp only at hSw); go_simp; (try with_reducible rfl))
  try simp only [Act.put, List.setIfInBounds_toArray, List.set_cons_zero, List.set_cons_succ]
  refine rtk 17 (oi := ⟨some 10, .assign (.tmp 32), _, _, _, none⟩) (v := ?_) rfl ?_ hH ?_
  rotate_left
  · (intro wq hSw; (try dsimp only at hSw); go_simp; (try with_reducible rfl))
  refine rtk 18 (oi := ⟨some 11, .assign (.tmp 33), _, _, _, none⟩) (v := ?_) rfl ?_ hH ?_
  rotate_left
  · (intro wq hSw; (try dsimp only at hSw); go_simp; (try with_reducible rfl))
  try simp only [Act.put, List.setIfInBounds_toArray, List.set_cons_zero, List.set_cons_succ]
  refine wpAnyH_done (by kernel_rfl) ?_ _
  refine NoPanic.normal ?_
  obtain ⟨Zc, Zx, Zy, gg⟩ := hH
  go_wp2_with fail
  go_ret
  exact ⟨rfl, gg⟩
theorem csh_val {dp m : Int} {x y : Bd} (hx : Vb x) (hy : Vb y) (hd : Dp dp) (hm : 0 ≤ m ∧ m ≤ 1048576) : mdv (amI dp x y) m (x.m + y.m) = shI dp x y m := by
  have b := am_bd (x := x) (y := y) hd
  have m0 := hx.m0; have m1 := hy.m0
  unfold shI mdv
  by_cases c : x.m + y.m = 0
  · rw [if_pos c, if_pos (am_zero c)]
  · rw [if_neg c]
    have e : fl (amI dp x y * m) (x.m + y.m) = amI dp x y * m / (x.m + y.m) := if_neg (by omega)
    rw [e]
    have p := mul_bd (a := amI dp x y) (b := m) (A := 6710476) (B := 1048576) (by omega) (by omega)
    have p0 := Int.mul_nonneg b.1 hm.1
    have g := Int.ediv_nonneg (b := x.m + y.m) p0 (by omega)
    have g2 := Int.ediv_le_self (x.m + y.m) p0
    rw [rv_i64 (by omega) (by omega)]
    by_cases c2 : amI dp x y = 0
    · rw [if_pos c2, c2, Int.zero_mul, Int.zero_ediv]
    · rw [if_neg c2]
theorem csh_ok {lo hi nx ny dp : Int} {x y : Bd} (z : Bool) (hx : Vb x) (hy : Vb y) (hd : Dp dp) : CSh lo hi nx ny dp x y z (shI dp x y (if z = true then y.m else x.m)) := by
  have m0 := hx.m0; have m1 := hx.m1; have m2 := hy.m0; have m3 := hy.m1
  have b := am_bd (x := x) (y := y) hd
  have A := cam_ok (lo := lo) (hi := hi) (nx := nx) (ny := ny) hx hy hd
  have w1 : IntKind.i64.wrap x.m = x.m := by rw [IntKind.wrap_i64]; omega
  have w2 : IntKind.i64.wrap y.m = y.m := by rw [IntKind.wrap_i64]; omega
  have w3 : IntKind.i64.wrap (x.m + y.m) = x.m + y.m := by rw [IntKind.wrap_i64]; omega
  have q : ∀ {m : Int}, 0 ≤ m ∧ m ≤ 1048576 → KMdC (amI dp x y) m (x.m + y.m) (shI dp x y m) (mde (amI dp x y) m (x.m + y.m)) := fun {m} h w => by
    rw [← csh_val hx hy hd h]
    exact kep_calls (muldiv_any _ _ _ (by unfold I64; omega) (by unfold I64; omega) (by unfold I64; omega) w)
  cases z
  · exact csh_false A (q ⟨m0, m1⟩) w1 w2 w3
  · exact csh_true A (q ⟨m2, m3⟩) w1 w2 w3
end Go.Proofs.Ytlbbacmpdlghaaa
