/-
  Package integrate: the reference's Push.
-/
import Derived.Test.YtlabeelbbkbkaaaIntRef1
import Derived.Test.YtlabeelbbkbkaaaJ05BoxMath
import Derived.Deep.DeepCutAuto
import Derived.Deep.QuietTactic
import Derived.BigQuiet
namespace Go.Proofs.Ytlabeelbbkbkaaa
open Go.RowKit Go.Lib

theorem pkI {P : Program} {f : Nat} {args : Array Value} {V : Ending} {w : World} (h : Calls P f args w fun e w' => e = V ∧ w = w') : Calls P f args w fun e w' => e = V ∧ Kep w.heap.size w w' := h.mono fun _ _ h => ⟨h.1, by rw [← h.2]; exact Kep.refl _ _⟩
/-- What a push returns. -/
abbrev psV (x : Bd) (j k : Int) : Value := .tuple #[.agg #[.int .u32 x.k, .int .i32 x.r, .int .i32 x.ax, .int .i32 x.ay, .int .i32 x.m, .int .i32 x.o, .int .i32 x.px, .int .i32 x.py, .int .i32 (limJ (psX x j)), .int .i32 (limJ (psY x k))], .bool (psC x j k)]
abbrev RPs (x : Bd) (j k : Int) : Prop := ∀ w, Calls Try.prog 18 #[.agg #[.int .u32 x.k, .int .i32 x.r, .int .i32 x.ax, .int .i32 x.ay, .int .i32 x.m, .int .i32 x.o, .int .i32 x.px, .int .i32 x.py, .int .i32 x.vx, .int .i32 x.vy], .agg #[.int .i32 j, .int .i32 k]] w fun e w' => e = .returned (psV x j k) ∧ Kep w.heap.size w w'
set_option maxRecDepth 100000 in
set_option maxHeartbeats 4000000 in
theorem rps {x : Bd} {j k mx my fx fy ex ey lx ly : Int} {zx zy : Bool} (FX : Hid (∀ w, Calls Try.prog 30 #[.int .i64 mx, .int .i64 65536] w fun e w' => e = .returned (.int .i64 fx) ∧ Kep w.heap.size w w')) (FY : Hid (∀ w, Calls Try.prog 30 #[.int .i64 my, .int .i64 65536] w fun e w' => e = .returned (.int .i64 fy) ∧ Kep w.heap.size w w'))
    (LX : Hid (∀ w, Calls Try.prog 27 #[.int .i64 ex, .int .i64 16777216] w fun e w' => e = .returned (.int .i64 lx) ∧ w = w')) (LY : Hid (∀ w, Calls Try.prog 27 #[.int .i64 ey, .int .i64 16777216] w fun e w' => e = .returned (.int .i64 ly) ∧ w = w'))
    (f1 : IntKind.i64.wrap x.vx = x.vx) (f2 : IntKind.i64.wrap x.vy = x.vy) (f3 : IntKind.i64.wrap j = j) (f4 : IntKind.i64.wrap k = k) (f5 : IntKind.i64.wrap x.m = x.m) (f6 : IntKind.i64.wrap (j * x.m) = mx) (f7 : IntKind.i64.wrap (k * x.m) = my) (f8 : IntKind.i64.wrap (x.vx + fx) = ex) (f9 : IntKind.i64.wrap (x.vy + fy) = ey)
    (h1 : IntKind.i32.wrap lx = lx) (h2 : IntKind.i32.wrap ly = ly) (h3 : IntKind.i64.wrap lx = lx) (h4 : IntKind.i64.wrap ly = ly) (hzx : (lx != ex) = zx) (hzy : (ly != ey) = zy) (w : World) : Calls Try.prog 18 #[.agg #[.int .u32 x.k, .int .i32 x.r, .int .i32 x.ax, .int .i32 x.ay, .int .i32 x.m, .int .i32 x.o, .int .i32 x.px, .int .i32 x.py, .int .i32 x.vx, .int .i32 x.vy], .agg #[.int .i32 j, .int .i32 k]] w fun e w' => e = .returned (.tuple #[.agg #[.int .u32 x.k, .int .i32 x.r, .int .i32 x.ax, .int .i32 x.ay, .int .i32 x.m, .int .i32 x.o, .int .i32 x.px, .int .i32 x.py, .int .i32 lx, .int .i32 ly], .bool (zx || zy)]) ∧ Kep w.heap.size w w' := by
  go_enter Try.func18, Try.ntmps18
  go_upto_region 1 with fail
  generalize hW : World.alloc (World.alloc (World.alloc w _) _) _ = W1
  have Zb : ZC W1 (w.heap.size) [.int .u32 x.k, .int .i32 x.r, .int .i32 x.ax, .int .i32 x.ay, .int .i32 x.m, .int .i32 x.o, .int .i32 x.px, .int .i32 x.py, .int .i32 x.vx, .int .i32 x.vy] := by rw [← hW]; exact (ZC.more (ZC.more (zc_new' _ _ _ (by first | rfl | simp)) _) _)
  have Zj : ZC W1 (w.heap.size + 1) [.int .i32 j, .int .i32 k] := by rw [← hW]; exact (ZC.more (zc_new' _ _ _ (by first | rfl | simp)) _)
  have Zr : ZC W1 (w.heap.size + 1 + 1) [.int .u32 0, .int .i32 0, .int .i32 0, .int .i32 0, .int .i32 0, .int .i32 0, .int .i32 0, .int .i32 0, .int .i32 0, .int .i32 0] := by rw [← hW]; exact (zc_new' _ _ _ (by first | rfl | simp))
  have gg : Kep w.heap.size w W1 := by rw [← hW]; exact (kep_more (kep_more (kep_more (Kep.refl _ _) _) _) _)
  clear hW
  refine wp_region_noPanic ?_
  refine wp_region_held_drew (S := (fun w' => ZC w' (w.heap.size) [.int .u32 x.k, .int .i32 x.r, .int .i32 x.ax, .int .i32 x.ay, .int .i32 x.m, .int .i32 x.o, .int .i32 x.px, .int .i32 x.py, .int .i32 x.vx, .int .i32 x.vy] ∧ ZC w' (w.heap.size + 1) [.int .i32 j, .int .i32 k] ∧ ZC w' (w.heap.size + 1 + 1) [.int .u32 0, .int .i32 0, .int .i32 0, .int .i32 0, .int .i32 0, .int .i32 0, .int .i32 0, .int .i32 0, .int .i32 0, .int .i32 0] ∧ Kep w.heap.size w w')) (by kernel_rfl) (⟨Zb.drew, Zj.drew, Zr.drew, kep_drew gg⟩) (fun hH => ?_)
  clear Zb Zj Zr gg
  refine sT 0 hH ?_
  refine sT 1 hH ?_
  refine rtk 2 (oi := ⟨some 10, .load 21 (.tmp 9), _, _, _, none⟩) (v := ?_) rfl ?_ hH ?_
  rotate_left
  · (intro wq hSw; (try dsimp only at hSw); obtain ⟨Zb, Zj, Zr, -⟩ := hSw; have qb0 : wq.cell? ⟨w.heap.size, 0, none⟩ = some (.int .u32 x.k) := Zb.i (i := 0) rfl; have qb1 : wq.cell? ⟨w.heap.size, 1, none⟩ = some (.int .i32 x.r) := Zb.i (i := 1) rfl; have qb2 : wq.cell? ⟨w.heap.size, 2, none⟩ = some (.int .i32 x.ax) := Zb.i (i := 2) rfl; have qb3 : wq.cell? ⟨w.heap.size, 3, none⟩ = some (.int .i32 x.ay) := Zb.i (i := 3) rfl; have qb4 : wq.cell? ⟨w.heap.size, 4, none⟩ = some (.int .i32 x.m) := Zb.i (i := 4) rfl; have qb5 : wq.cell? ⟨w.heap.size, 5, none⟩ = some (.int .i32 x.o) := Zb.i (i := 5) rfl; have qb6 : wq.cell? ⟨w.heap.size, 6, none⟩ = some (.int .i32 x.px) := Zb.i (i := 6) rfl; have qb7 : wq.cell? ⟨w.heap.size, 7, none⟩ = some (.int .i32 x.py) := Zb.i (i := 7) rfl; have qb8 : wq.cell? ⟨w.heap.size, 8, none⟩ = some (.int .i32 x.vx) := Zb.i (i := 8) rfl; have qb9 : wq.cell? ⟨w.heap.size, 9, none⟩ = some (.int .i32 x.vy) := Zb.i (i := 9) rfl; have qzb := Zb.lt; have qj0 : wq.cell? ⟨w.heap.size + 1, 0, none⟩ = some (.int .i32 j) := Zj.i (i := 0) rfl; have qj1 : wq.cell? ⟨w.heap.size + 1, 1, none⟩ = some (.int .i32 k) := Zj.i (i := 1) rfl; have qzj := Zj.lt; have qr0 : wq.cell? ⟨w.heap.size + 1 + 1, 0, none⟩ = some (.int .u32 0) := Zr.i (i := 0) rfl; have qr1 : wq.cell? ⟨w.heap.size + 1 + 1, 1, none⟩ = some (.int .i32 0) := Zr.i (i := 1) rfl; have qr2 : wq.cell? ⟨w.heap.size + 1 + 1, 2, none⟩ = some (.int .i32 0) := Zr.i (i := 2) rfl; have qr3 : wq.cell? ⟨w.heap.size + 1 + 1, 3, none⟩ = some (.int .i32 0) := Zr.i (i := 3) rfl; have qr4 : wq.cell? ⟨w.heap.size + 1 + 1, 4, none⟩ = some (.int .i32 0) := Zr.i (i := 4) rfl; have qr5 : wq.cell? ⟨w.heap.size + 1 + 1, 5, none⟩ = some (.int .i32 0) := Zr.i (i := 5) rfl; have qr6 : wq.cell? ⟨w.heap.size + 1 + 1, 6, none⟩ = some (.int .i32 0) := Zr.i (i := 6) rfl; have qr7 : wq.cell? ⟨w.heap.size + 1 + 1, 7, none⟩ = some (.int .i32 0) := Zr.i (i := 7) rfl; have qr8 : wq.cell? ⟨w.heap.size + 1 + 1, 8, none⟩ = some (.int .i32 0) := Zr.i (i := 8) rfl; have qr9 : wq.cell? ⟨w.heap.size + 1 + 1, 9, none⟩ = some (.int .i32 0) := Zr.i (i := 9) rfl; have qzr := Zr.lt; go_simp; (try with_reducible rfl))
  refine sN 3 hH ?_
  refine sT 4 hH ?_
  refine rtk 5 (oi := ⟨some 13, .load 21 (.tmp 12), _, _, _, none⟩) (v := ?_) rfl ?_ hH ?_
  rotate_left
  · (intro wq hSw; (try dsimp only at hSw); obtain ⟨Zb, Zj, Zr, -⟩ := hSw; have qb0 : wq.cell? ⟨w.heap.size, 0, none⟩ = some (.int .u32 x.k) := Zb.i (i := 0) rfl; have qb1 : wq.cell? ⟨w.heap.size, 1, none⟩ = some (.int .i32 x.r) := Zb.i (i := 1) rfl; have qb2 : wq.cell? ⟨w.heap.size, 2, none⟩ = some (.int .i32 x.ax) := Zb.i (i := 2) rfl; have qb3 : wq.cell? ⟨w.heap.size, 3, none⟩ = some (.int .i32 x.ay) := Zb.i (i := 3) rfl; have qb4 : wq.cell? ⟨w.heap.size, 4, none⟩ = some (.int .i32 x.m) := Zb.i (i := 4) rfl; have qb5 : wq.cell? ⟨w.heap.size, 5, none⟩ = some (.int .i32 x.o) := Zb.i (i := 5) rfl; have qb6 : wq.cell? ⟨w.heap.size, 6, none⟩ = some (.int .i32 x.px) := Zb.i (i := 6) rfl; have qb7 : wq.cell? ⟨w.heap.size, 7, none⟩ = some (.int .i32 x.py) := Zb.i (i := 7) rfl; have qb8 : wq.cell? ⟨w.heap.size, 8, none⟩ = some (.int .i32 x.vx) := Zb.i (i := 8) rfl; have qb9 : wq.cell? ⟨w.heap.size, 9, none⟩ = some (.int .i32 x.vy) := Zb.i (i := 9) rfl; have qzb := Zb.lt; have qj0 : wq.cell? ⟨w.heap.size + 1, 0, none⟩ = some (.int .i32 j) := Zj.i (i := 0) rfl; have qj1 : wq.cell? ⟨w.heap.size + 1, 1, none⟩ = some (.int .i32 k) := Zj.i (i := 1) rfl; have qzj := Zj.lt; have qr0 : wq.cell? ⟨w.heap.size + 1 + 1, 0, none⟩ = some (.int .u32 0) := Zr.i (i := 0) rfl; have qr1 : wq.cell? ⟨w.heap.size + 1 + 1, 1, none⟩ = some (.int .i32 0) := Zr.i (i := 1) rfl; have qr2 : wq.cell? ⟨w.heap.size + 1 + 1, 2, none⟩ = some (.int .i32 0) := Zr.i (i := 2) rfl; have qr3 : wq.cell? ⟨w.heap.size + 1 + 1, 3, none⟩ = some (.int .i32 0) := Zr.i (i := 3) rfl; have qr4 : wq.cell? ⟨w.heap.size + 1 + 1, 4, none⟩ = some (.int .i32 0) := Zr.i (i := 4) rfl; have qr5 : wq.cell? ⟨w.heap.size + 1 + 1, 5, none⟩ = some (.int .i32 0) := Zr.i (i := 5) rfl; have qr6 : wq.cell? ⟨w.heap.size + 1 + 1, 6, none⟩ = some (.int .i32 0) := Zr.i (i := 6) rfl; have qr7 : wq.cell? ⟨w.heap.size + 1 + 1, 7, none⟩ = some (.int .i32 0) := Zr.i (i := 7) rfl; have qr8 : wq.cell? ⟨w.heap.size + 1 + 1, 8, none⟩ = some (.int .i32 0) := Zr.i (i := 8) rfl; have qr9 : wq.cell? ⟨w.heap.size + 1 + 1, 9, none⟩ = some (.int .i32 0) := Zr.i (i := 9) rfl; have qzr := Zr.lt; go_simp; (try with_reducible rfl))
  refine sT 6 hH ?_
  refine sN 7 hH ?_
  refine rtk 8 (oi := ⟨some 16, .load 21 (.tmp 15), _, _, _, none⟩) (v := ?_) rfl ?_ hH ?_
  rotate_left
  · (intro wq hSw; (try dsimp only at hSw); obtain ⟨Zb, Zj, Zr, -⟩ := hSw; have qb0 : wq.cell? ⟨w.heap.size, 0, none⟩ = some (.int .u32 x.k) := Zb.i (i := 0) rfl; have qb1 : wq.cell? ⟨w.heap.size, 1, none⟩ = some (.int .i32 x.r) := Zb.i (i := 1) rfl; have qb2 : wq.cell? ⟨w.heap.size, 2, none⟩ = some (.int .i32 x.ax) := Zb.i (i := 2) rfl; have qb3 : wq.cell? ⟨w.heap.size, 3, none⟩ = some (.int .i32 x.ay) := Zb.i (i := 3) rfl; have qb4 : wq.cell? ⟨w.heap.size, 4, none⟩ = some (.int .i32 x.m) := Zb.i (i := 4) rfl; have qb5 : wq.cell? ⟨w.heap.size, 5, none⟩ = some (.int .i32 x.o) := Zb.i (i := 5) rfl; have qb6 : wq.cell? ⟨w.heap.size, 6, none⟩ = some (.int .i32 x.px) := Zb.i (i := 6) rfl; have qb7 : wq.cell? ⟨w.heap.size, 7, none⟩ = some (.int .i32 x.py) := Zb.i (i := 7) rfl; have qb8 : wq.cell? ⟨w.heap.size, 8, none⟩ = some (.int .i32 x.vx) := Zb.i (i := 8) rfl; have qb9 : wq.cell? ⟨w.heap.size, 9, none⟩ = some (.int .i32 x.vy) := Zb.i (i := 9) rfl; have qzb := Zb.lt; have qj0 : wq.cell? ⟨w.heap.size + 1, 0, none⟩ = some (.int .i32 j) := Zj.i (i := 0) rfl; have qj1 : wq.cell? ⟨w.heap.size + 1, 1, none⟩ = some (.int .i32 k) := Zj.i (i := 1) rfl; have qzj := Zj.lt; have qr0 : wq.cell? ⟨w.heap.size + 1 + 1, 0, none⟩ = some (.int .u32 0) := Zr.i (i := 0) rfl; have qr1 : wq.cell? ⟨w.heap.size + 1 + 1, 1, none⟩ = some (.int .i32 0) := Zr.i (i := 1) rfl; have qr2 : wq.cell? ⟨w.heap.size + 1 + 1, 2, none⟩ = some (.int .i32 0) := Zr.i (i := 2) rfl; have qr3 : wq.cell? ⟨w.heap.size + 1 + 1, 3, none⟩ = some (.int .i32 0) := Zr.i (i := 3) rfl; have qr4 : wq.cell? ⟨w.heap.size + 1 + 1, 4, none⟩ = some (.int .i32 0) := Zr.i (i := 4) rfl; have qr5 : wq.cell? ⟨w.heap.size + 1 + 1, 5, none⟩ = some (.int .i32 0) := Zr.i (i := 5) rfl; have qr6 : wq.cell? ⟨w.heap.size + 1 + 1, 6, none⟩ = some (.int .i32 0) := Zr.i (i := 6) rfl; have qr7 : wq.cell? ⟨w.heap.size + 1 + 1, 7, none⟩ = some (.int .i32 0) := Zr.i (i := 7) rfl; have qr8 : wq.cell? ⟨w.heap.size + 1 + 1, 8, none⟩ = some (.int .i32 0) := Zr.i (i := 8) rfl; have qr9 : wq.cell? ⟨w.heap.size + 1 + 1, 9, none⟩ = some (.int .i32 0) := Zr.i (i := 9) rfl; have qzr := Zr.lt; go_simp; (try with_reducible rfl))
  refine sT 9 hH ?_
  refine sN 10 hH ?_
  refine sC 11 (fun K hK => ?_)
  go_simp
  (with_reducible refine (FX.out _).mono ?_); rintro e v1_11 ⟨rfl, g⟩
  refine hK.out _ _ (by (try dsimp only); obtain ⟨Zb, Zj, Zr, gg⟩ := id hH; exact ⟨Zb.kep g, Zj.kep g, Zr.kep g, kep_next gg g⟩) (fun hH2 => ?_)
  clear hK K hH; have hH := hH2; clear hH2
  refine sT 12 hH ?_
  refine sN 13 hH ?_
  refine sE ?_
  obtain ⟨Zb, Zj, Zr, gg⟩ := hH
  go_upto_region 2 with fail
  refine wp_region_noPanic ?_
  refine wp_region_held_drew (S := (fun w' => ZC w' (w.heap.size) [.int .u32 x.k, .int .i32 x.r, .int .i32 x.ax, .int .i32 x.ay, .int .i32 x.m, .int .i32 x.o, .int .i32 x.px, .int .i32 x.py, .int .i32 x.vx, .int .i32 x.vy] ∧ ZC w' (w.heap.size + 1) [.int .i32 j, .int .i32 k] ∧ ZC w' (w.heap.size + 1 + 1) [.int .u32 0, .int .i32 0, .int .i32 0, .int .i32 0, .int .i32 0, .int .i32 0, .int .i32 0, .int .i32 0, .int .i32 0, .int .i32 0] ∧ Kep w.heap.size w w')) (by kernel_rfl) (⟨Zb.drew, Zj.drew, Zr.drew, kep_drew gg⟩) (fun hH => ?_)
  clear Zb Zj Zr gg
  refine sT 0 hH ?_
  refine sT 1 hH ?_
  refine rtk 2 (oi := ⟨some 23, .load 21 (.tmp 22), _, _, _, none⟩) (v := ?_) rfl ?_ hH ?_
  rotate_left
  · (intro wq hSw; (try dsimp only at hSw); obtain ⟨Zb, Zj, Zr, -⟩ := hSw; have qb0 : wq.cell? ⟨w.heap.size, 0, none⟩ = some (.int .u32 x.k) := Zb.i (i := 0) rfl; have qb1 : wq.cell? ⟨w.heap.size, 1, none⟩ = some (.int .i32 x.r) := Zb.i (i := 1) rfl; have qb2 : wq.cell? ⟨w.heap.size, 2, none⟩ = some (.int .i32 x.ax) := Zb.i (i := 2) rfl; have qb3 : wq.cell? ⟨w.heap.size, 3, none⟩ = some (.int .i32 x.ay) := Zb.i (i := 3) rfl; have qb4 : wq.cell? ⟨w.heap.size, 4, none⟩ = some (.int .i32 x.m) := Zb.i (i := 4) rfl; have qb5 : wq.cell? ⟨w.heap.size, 5, none⟩ = some (.int .i32 x.o) := Zb.i (i := 5) rfl; have qb6 : wq.cell? ⟨w.heap.size, 6, none⟩ = some (.int .i32 x.px) := Zb.i (i := 6) rfl; have qb7 : wq.cell? ⟨w.heap.size, 7, none⟩ = some (.int .i32 x.py) := Zb.i (i := 7) rfl; have qb8 : wq.cell? ⟨w.heap.size, 8, none⟩ = some (.int .i32 x.vx) := Zb.i (i := 8) rfl; have qb9 : wq.cell? ⟨w.heap.size, 9, none⟩ = some (.int .i32 x.vy) := Zb.i (i := 9) rfl; have qzb := Zb.lt; have qj0 : wq.cell? ⟨w.heap.size + 1, 0, none⟩ = some (.int .i32 j) := Zj.i (i := 0) rfl; have qj1 : wq.cell? ⟨w.heap.size + 1, 1, none⟩ = some (.int .i32 k) := Zj.i (i := 1) rfl; have qzj := Zj.lt; have qr0 : wq.cell? ⟨w.heap.size + 1 + 1, 0, none⟩ = some (.int .u32 0) := Zr.i (i := 0) rfl; have qr1 : wq.cell? ⟨w.heap.size + 1 + 1, 1, none⟩ = some (.int .i32 0) := Zr.i (i := 1) rfl; have qr2 : wq.cell? ⟨w.heap.size + 1 + 1, 2, none⟩ = some (.int .i32 0) := Zr.i (i := 2) rfl; have qr3 : wq.cell? ⟨w.heap.size + 1 + 1, 3, none⟩ = some (.int .i32 0) := Zr.i (i := 3) rfl; have qr4 : wq.cell? ⟨w.heap.size + 1 + 1, 4, none⟩ = some (.int .i32 0) := Zr.i (i := 4) rfl; have qr5 : wq.cell? ⟨w.heap.size + 1 + 1, 5, none⟩ = some (.int .i32 0) := Zr.i (i := 5) rfl; have qr6 : wq.cell? ⟨w.heap.size + 1 + 1, 6, none⟩ = some (.int .i32 0) := Zr.i (i := 6) rfl; have qr7 : wq.cell? ⟨w.heap.size + 1 + 1, 7, none⟩ = some (.int .i32 0) := Zr.i (i := 7) rfl; have qr8 : wq.cell? ⟨w.heap.size + 1 + 1, 8, none⟩ = some (.int .i32 0) := Zr.i (i := 8) rfl; have qr9 : wq.cell? ⟨w.heap.size + 1 + 1, 9, none⟩ = some (.int .i32 0) := Zr.i (i := 9) rfl; have qzr := Zr.lt; go_simp; (try with_reducible rfl))
  refine sN 3 hH ?_
  refine sT 4 hH ?_
  refine rtk 5 (oi := ⟨some 26, .load 21 (.tmp 25), _, _, _, none⟩) (v := ?_) rfl ?_ hH ?_
  rotate_left
  · (intro wq hSw; (try dsimp only at hSw); obtain ⟨Zb, Zj, Zr, -⟩ := hSw; have qb0 : wq.cell? ⟨w.heap.size, 0, none⟩ = some (.int .u32 x.k) := Zb.i (i := 0) rfl; have qb1 : wq.cell? ⟨w.heap.size, 1, none⟩ = some (.int .i32 x.r) := Zb.i (i := 1) rfl; have qb2 : wq.cell? ⟨w.heap.size, 2, none⟩ = some (.int .i32 x.ax) := Zb.i (i := 2) rfl; have qb3 : wq.cell? ⟨w.heap.size, 3, none⟩ = some (.int .i32 x.ay) := Zb.i (i := 3) rfl; have qb4 : wq.cell? ⟨w.heap.size, 4, none⟩ = some (.int .i32 x.m) := Zb.i (i := 4) rfl; have qb5 : wq.cell? ⟨w.heap.size, 5, none⟩ = some (.int .i32 x.o) := Zb.i (i := 5) rfl; have qb6 : wq.cell? ⟨w.heap.size, 6, none⟩ = some (.int .i32 x.px) := Zb.i (i := 6) rfl; have qb7 : wq.cell? ⟨w.heap.size, 7, none⟩ = some (.int .i32 x.py) := Zb.i (i := 7) rfl; have qb8 : wq.cell? ⟨w.heap.size, 8, none⟩ = some (.int .i32 x.vx) := Zb.i (i := 8) rfl; have qb9 : wq.cell? ⟨w.heap.size, 9, none⟩ = some (.int .i32 x.vy) := Zb.i (i := 9) rfl; have qzb := Zb.lt; have qj0 : wq.cell? ⟨w.heap.size + 1, 0, none⟩ = some (.int .i32 j) := Zj.i (i := 0) rfl; have qj1 : wq.cell? ⟨w.heap.size + 1, 1, none⟩ = some (.int .i32 k) := Zj.i (i := 1) rfl; have qzj := Zj.lt; have qr0 : wq.cell? ⟨w.heap.size + 1 + 1, 0, none⟩ = some (.int .u32 0) := Zr.i (i := 0) rfl; have qr1 : wq.cell? ⟨w.heap.size + 1 + 1, 1, none⟩ = some (.int .i32 0) := Zr.i (i := 1) rfl; have qr2 : wq.cell? ⟨w.heap.size + 1 + 1, 2, none⟩ = some (.int .i32 0) := Zr.i (i := 2) rfl; have qr3 : wq.cell? ⟨w.heap.size + 1 + 1, 3, none⟩ = some (.int .i32 0) := Zr.i (i := 3) rfl; have qr4 : wq.cell? ⟨w.heap.size + 1 + 1, 4, none⟩ = some (.int .i32 0) := Zr.i (i := 4) rfl; have qr5 : wq.cell? ⟨w.heap.size + 1 + 1, 5, none⟩ = some (.int .i32 0) := Zr.i (i := 5) rfl; have qr6 : wq.cell? ⟨w.heap.size + 1 + 1, 6, none⟩ = some (.int .i32 0) := Zr.i (i := 6) rfl; have qr7 : wq.cell? ⟨w.heap.size + 1 + 1, 7, none⟩ = some (.int .i32 0) := Zr.i (i := 7) rfl; have qr8 : wq.cell? ⟨w.heap.size + 1 + 1, 8, none⟩ = some (.int .i32 0) := Zr.i (i := 8) rfl; have qr9 : wq.cell? ⟨w.heap.size + 1 + 1, 9, none⟩ = some (.int .i32 0) := Zr.i (i := 9) rfl; have qzr := Zr.lt; go_simp; (try with_reducible rfl))
  refine sT 6 hH ?_
  refine sN 7 hH ?_
  refine rtk 8 (oi := ⟨some 29, .load 21 (.tmp 28), _, _, _, none⟩) (v := ?_) rfl ?_ hH ?_
  rotate_left
  · (intro wq hSw; (try dsimp only at hSw); obtain ⟨Zb, Zj, Zr, -⟩ := hSw; have qb0 : wq.cell? ⟨w.heap.size, 0, none⟩ = some (.int .u32 x.k) := Zb.i (i := 0) rfl; have qb1 : wq.cell? ⟨w.heap.size, 1, none⟩ = some (.int .i32 x.r) := Zb.i (i := 1) rfl; have qb2 : wq.cell? ⟨w.heap.size, 2, none⟩ = some (.int .i32 x.ax) := Zb.i (i := 2) rfl; have qb3 : wq.cell? ⟨w.heap.size, 3, none⟩ = some (.int .i32 x.ay) := Zb.i (i := 3) rfl; have qb4 : wq.cell? ⟨w.heap.size, 4, none⟩ = some (.int .i32 x.m) := Zb.i (i := 4) rfl; have qb5 : wq.cell? ⟨w.heap.size, 5, none⟩ = some (.int .i32 x.o) := Zb.i (i := 5) rfl; have qb6 : wq.cell? ⟨w.heap.size, 6, none⟩ = some (.int .i32 x.px) := Zb.i (i := 6) rfl; have qb7 : wq.cell? ⟨w.heap.size, 7, none⟩ = some (.int .i32 x.py) := Zb.i (i := 7) rfl; have qb8 : wq.cell? ⟨w.heap.size, 8, none⟩ = some (.int .i32 x.vx) := Zb.i (i := 8) rfl; have qb9 : wq.cell? ⟨w.heap.size, 9, none⟩ = some (.int .i32 x.vy) := Zb.i (i := 9) rfl; have qzb := Zb.lt; have qj0 : wq.cell? ⟨w.heap.size + 1, 0, none⟩ = some (.int .i32 j) := Zj.i (i := 0) rfl; have qj1 : wq.cell? ⟨w.heap.size + 1, 1, none⟩ = some (.int .i32 k) := Zj.i (i := 1) rfl; have qzj := Zj.lt; have qr0 : wq.cell? ⟨w.heap.size + 1 + 1, 0, none⟩ = some (.int .u32 0) := Zr.i (i := 0) rfl; have qr1 : wq.cell? ⟨w.heap.size + 1 + 1, 1, none⟩ = some (.int .i32 0) := Zr.i (i := 1) rfl; have qr2 : wq.cell? ⟨w.heap.size + 1 + 1, 2, none⟩ = some (.int .i32 0) := Zr.i (i := 2) rfl; have qr3 : wq.cell? ⟨w.heap.size + 1 + 1, 3, none⟩ = some (.int .i32 0) := Zr.i (i := 3) rfl; have qr4 : wq.cell? ⟨w.heap.size + 1 + 1, 4, none⟩ = some (.int .i32 0) := Zr.i (i := 4) rfl; have qr5 : wq.cell? ⟨w.heap.size + 1 + 1, 5, none⟩ = some (.int .i32 0) := Zr.i (i := 5) rfl; have qr6 : wq.cell? ⟨w.heap.size + 1 + 1, 6, none⟩ = some (.int .i32 0) := Zr.i (i := 6) rfl; have qr7 : wq.cell? ⟨w.heap.size + 1 + 1, 7, none⟩ = some (.int .i32 0) := Zr.i (i := 7) rfl; have qr8 : wq.cell? ⟨w.heap.size + 1 + 1, 8, none⟩ = some (.int .i32 0) := Zr.i (i := 8) rfl; have qr9 : wq.cell? ⟨w.heap.size + 1 + 1, 9, none⟩ = some (.int .i32 0) := Zr.i (i := 9) rfl; have qzr := Zr.lt; go_simp; (try with_reducible rfl))
  refine sT 9 hH ?_
  refine sN 10 hH ?_
  refine sC 11 (fun K hK => ?_)
  go_simp
  (with_reducible refine (FY.out _).mono ?_); rintro e v2_11 ⟨rfl, g⟩
  refine hK.out _ _ (by (try dsimp only); obtain ⟨Zb, Zj, Zr, gg⟩ := id hH; exact ⟨Zb.kep g, Zj.kep g, Zr.kep g, kep_next gg g⟩) (fun hH2 => ?_)
  clear hK K hH; have hH := hH2; clear hH2
  refine sT 12 hH ?_
  refine sN 13 hH ?_
  refine sE ?_
  obtain ⟨Zb, Zj, Zr, gg⟩ := hH
  have b8 := Zb.i (i := 8) rfl
  have b9 := Zb.i (i := 9) rfl
  have g8 := Zb.frz 8
  have g9 := Zb.frz 9
  have hbl := Zb.lt
  have hg0 := gg.size
  go_upto_region 4 with (first | ((with_reducible refine (LX.out _).mono ?_); rintro e w9 ⟨rfl, rfl⟩) | ((with_reducible refine (LY.out _).mono ?_); rintro e w9 ⟨rfl, rfl⟩))
  generalize hW : World.setCell _ _ _ = W9
  have Zb9 : ZC W9 (w.heap.size) [.int .u32 x.k, .int .i32 x.r, .int .i32 x.ax, .int .i32 x.ay, .int .i32 x.m, .int .i32 x.o, .int .i32 x.px, .int .i32 x.py, .int .i32 lx, .int .i32 ly] := by rw [← hW]; exact (Zb.put (.int .i32 lx) (i := 8) (by simp)).put (.int .i32 ly) (i := 9) (by simp)
  have Zr9 : ZC W9 (w.heap.size + 1 + 1) [.int .u32 0, .int .i32 0, .int .i32 0, .int .i32 0, .int .i32 0, .int .i32 0, .int .i32 0, .int .i32 0, .int .i32 0, .int .i32 0] := by rw [← hW]; exact (Zr.far1 (by omega) _).far1 (by omega) _
  replace gg : Kep w.heap.size w W9 := by rw [← hW]; exact (gg.setCell (Nat.le_refl _) _).setCell (Nat.le_refl _) _
  clear hW b8 b9 g8 g9 hbl hg0 Zb Zj Zr
  have Zb := Zb9
  have Zr := Zr9
  clear Zb9 Zr9
  cases zx with
  | true =>
    refine wp_region_noPanic ?_
    refine wp_region_held_drew (S := (fun w' => ZC w' (w.heap.size) [.int .u32 x.k, .int .i32 x.r, .int .i32 x.ax, .int .i32 x.ay, .int .i32 x.m, .int .i32 x.o, .int .i32 x.px, .int .i32 x.py, .int .i32 lx, .int .i32 ly] ∧ (∃ l : List Value, l.length = 10 ∧ ZC w' (w.heap.size + 1 + 1) l) ∧ Kep w.heap.size w w')) (by kernel_rfl) (⟨Zb.drew, ⟨_, by rfl, Zr.drew⟩, kep_drew gg⟩) (fun hH => ?_)
    have Yr := Zr.drew
    clear Zb Zr gg
    generalize W9.drew = Y9 at *
    refine rtk 0 (oi := ⟨some 42, .load 37 (.tmp 2), _, _, _, none⟩) (v := ?_) rfl ?_ hH ?_
    rotate_left
    · (intro wq hSw; (try dsimp only at hSw); obtain ⟨Zb, -, -⟩ := hSw; have qb0 : wq.cell? ⟨w.heap.size, 0, none⟩ = some (.int .u32 x.k) := Zb.i (i := 0) rfl; have qb1 : wq.cell? ⟨w.heap.size, 1, none⟩ = some (.int .i32 x.r) := Zb.i (i := 1) rfl; have qb2 : wq.cell? ⟨w.heap.size, 2, none⟩ = some (.int .i32 x.ax) := Zb.i (i := 2) rfl; have qb3 : wq.cell? ⟨w.heap.size, 3, none⟩ = some (.int .i32 x.ay) := Zb.i (i := 3) rfl; have qb4 : wq.cell? ⟨w.heap.size, 4, none⟩ = some (.int .i32 x.m) := Zb.i (i := 4) rfl; have qb5 : wq.cell? ⟨w.heap.size, 5, none⟩ = some (.int .i32 x.o) := Zb.i (i := 5) rfl; have qb6 : wq.cell? ⟨w.heap.size, 6, none⟩ = some (.int .i32 x.px) := Zb.i (i := 6) rfl; have qb7 : wq.cell? ⟨w.heap.size, 7, none⟩ = some (.int .i32 x.py) := Zb.i (i := 7) rfl; have qb8 : wq.cell? ⟨w.heap.size, 8, none⟩ = some (.int .i32 lx) := Zb.i (i := 8) rfl; have qb9 : wq.cell? ⟨w.heap.size, 9, none⟩ = some (.int .i32 ly) := Zb.i (i := 9) rfl; have qzb := Zb.lt; go_simp; (try with_reducible rfl))
    refine sT 1 hH ?_
    refine sT 2 hH ?_
    refine rtk 3 (oi := ⟨some 45, .load 21 (.tmp 44), _, _, _, none⟩) (v := ?_) rfl ?_ hH ?_
    rotate_left
    · (intro wq hSw; (try dsimp only at hSw); obtain ⟨Zb, -, -⟩ := hSw; have qb0 : wq.cell? ⟨w.heap.size, 0, none⟩ = some (.int .u32 x.k) := Zb.i (i := 0) rfl; have qb1 : wq.cell? ⟨w.heap.size, 1, none⟩ = some (.int .i32 x.r) := Zb.i (i := 1) rfl; have qb2 : wq.cell? ⟨w.heap.size, 2, none⟩ = some (.int .i32 x.ax) := Zb.i (i := 2) rfl; have qb3 : wq.cell? ⟨w.heap.size, 3, none⟩ = some (.int .i32 x.ay) := Zb.i (i := 3) rfl; have qb4 : wq.cell? ⟨w.heap.size, 4, none⟩ = some (.int .i32 x.m) := Zb.i (i := 4) rfl; have qb5 : wq.cell? ⟨w.heap.size, 5, none⟩ = some (.int .i32 x.o) := Zb.i (i := 5) rfl; have qb6 : wq.cell? ⟨w.heap.size, 6, none⟩ = some (.int .i32 x.px) := Zb.i (i := 6) rfl; have qb7 : wq.cell? ⟨w.heap.size, 7, none⟩ = some (.int .i32 x.py) := Zb.i (i := 7) rfl; have qb8 : wq.cell? ⟨w.heap.size, 8, none⟩ = some (.int .i32 lx) := Zb.i (i := 8) rfl; have qb9 : wq.cell? ⟨w.heap.size, 9, none⟩ = some (.int .i32 ly) := Zb.i (i := 9) rfl; have qzb := Zb.lt; go_simp; (try with_reducible rfl))
    try simp only [Act.put, List.setIfInBounds_toArray, List.set_cons_zero, List.set_cons_succ]
    refine sT 4 hH ?_
    refine sT 5 hH ?_
    refine sT 6 hH ?_
    refine sN 7 hH ?_
    refine sM 8 hH ?_
    refine sM 9 hH ?_
    refine sM 10 hH ?_
    refine sM 11 hH ?_
    refine sM 12 hH ?_
    refine sU 13 hH ?_
    refine sN 14 hH ?_
    refine sC 15 (fun K hK => ?_)
    obtain ⟨Zb, _, gg⟩ := id hH
    have sr0 := Yr.i (i := 0) rfl
    have sr1 := Yr.i (i := 1) rfl
    have sr2 := Yr.i (i := 2) rfl
    have sr3 := Yr.i (i := 3) rfl
    have sr4 := Yr.i (i := 4) rfl
    have sr5 := Yr.i (i := 5) rfl
    have sr6 := Yr.i (i := 6) rfl
    have sr7 := Yr.i (i := 7) rfl
    have sr8 := Yr.i (i := 8) rfl
    have sr9 := Yr.i (i := 9) rfl
    have sfr0 := Yr.frz 0
    have sfr1 := Yr.frz 1
    have sfr2 := Yr.frz 2
    have sfr3 := Yr.frz 3
    have sfr4 := Yr.frz 4
    have sfr5 := Yr.frz 5
    have sfr6 := Yr.frz 6
    have sfr7 := Yr.frz 7
    have sfr8 := Yr.frz 8
    have sfr9 := Yr.frz 9
    have szr := Yr.lt
    have zq := gg.size
    have kb := Zb.lt
    have kr := Yr.lt
    go_simp
    clear sr0 sr1 sr2 sr3 sr4 sr5 sr6 sr7 sr8 sr9 sfr0 sfr1 sfr2 sfr3 sfr4 sfr5 sfr6 sfr7 sfr8 sfr9 szr
    replace Yr := Yr.set [.int .u32 x.k, .int .i32 x.r, .int .i32 x.ax, .int .i32 x.ay, .int .i32 x.m, .int .i32 x.o, .int .i32 x.px, .int .i32 x.py, .int .i32 lx, .int .i32 ly] (by simp)
    simp only [setAll, Nat.zero_add, Nat.reduceAdd] at Yr
    refine hK.out _ _ (by (try dsimp only); exact ⟨by simpa only [setAll, Nat.zero_add, Nat.reduceAdd] using Zb.far (b := w.heap.size + 1 + 1) (by first | (simp; done) | (simp; omega)) [.int .u32 x.k, .int .i32 x.r, .int .i32 x.ax, .int .i32 x.ay, .int .i32 x.m, .int .i32 x.o, .int .i32 x.px, .int .i32 x.py, .int .i32 lx, .int .i32 ly], ⟨_, by rfl, Yr⟩, by simpa only [setAll, Nat.zero_add, Nat.reduceAdd] using kep_setAll (by first | omega | (simp; omega)) [.int .u32 x.k, .int .i32 x.r, .int .i32 x.ax, .int .i32 x.ay, .int .i32 x.m, .int .i32 x.o, .int .i32 x.px, .int .i32 x.py, .int .i32 lx, .int .i32 ly] 0 gg⟩) (fun hH2 => ?_)
    clear zq kb kr Zb gg
    clear hK K hH; have hH := hH2; clear hH2
    revert Yr hH; generalize World.setCell _ _ _ = V4_15; intro Yr hH
    refine sN 16 hH ?_
    refine sE ?_
    obtain ⟨Zb, -, gg⟩ := hH
    have Zr := Yr; clear Yr
    go_wp2_with fail
    have r0 := Zr.i (i := 0) rfl
    have r1 := Zr.i (i := 1) rfl
    have r2 := Zr.i (i := 2) rfl
    have r3 := Zr.i (i := 3) rfl
    have r4 := Zr.i (i := 4) rfl
    have r5 := Zr.i (i := 5) rfl
    have r6 := Zr.i (i := 6) rfl
    have r7 := Zr.i (i := 7) rfl
    have r8 := Zr.i (i := 8) rfl
    have r9 := Zr.i (i := 9) rfl
    exact bodyPost_ret (v := .tuple #[.agg #[.int .u32 x.k, .int .i32 x.r, .int .i32 x.ax, .int .i32 x.ay, .int .i32 x.m, .int .i32 x.o, .int .i32 x.px, .int .i32 x.py, .int .i32 lx, .int .i32 ly], .bool true]) (by simp [results, Try.results18, go_sem, r0, r1, r2, r3, r4, r5, r6, r7, r8, r9]) rfl ⟨rfl, gg⟩
  | false =>
    refine wp_region_noPanic ?_
    refine wp_region_held_drew (S := (fun w' => ZC w' (w.heap.size) [.int .u32 x.k, .int .i32 x.r, .int .i32 x.ax, .int .i32 x.ay, .int .i32 x.m, .int .i32 x.o, .int .i32 x.px, .int .i32 x.py, .int .i32 lx, .int .i32 ly] ∧ (∃ l : List Value, l.length = 10 ∧ ZC w' (w.heap.size + 1 + 1) l) ∧ Kep w.heap.size w w')) (by kernel_rfl) (⟨Zb.drew, ⟨_, by rfl, Zr.drew⟩, kep_drew gg⟩) (fun hH => ?_)
    have Yr := Zr.drew
    clear Zb Zr gg
    generalize W9.drew = Y9 at *
    refine rtk 0 (oi := ⟨some 42, .load 37 (.tmp 2), _, _, _, none⟩) (v := ?_) rfl ?_ hH ?_
    rotate_left
    · (intro wq hSw; (try dsimp only at hSw); obtain ⟨Zb, -, -⟩ := hSw; have qb0 : wq.cell? ⟨w.heap.size, 0, none⟩ = some (.int .u32 x.k) := Zb.i (i := 0) rfl; have qb1 : wq.cell? ⟨w.heap.size, 1, none⟩ = some (.int .i32 x.r) := Zb.i (i := 1) rfl; have qb2 : wq.cell? ⟨w.heap.size, 2, none⟩ = some (.int .i32 x.ax) := Zb.i (i := 2) rfl; have qb3 : wq.cell? ⟨w.heap.size, 3, none⟩ = some (.int .i32 x.ay) := Zb.i (i := 3) rfl; have qb4 : wq.cell? ⟨w.heap.size, 4, none⟩ = some (.int .i32 x.m) := Zb.i (i := 4) rfl; have qb5 : wq.cell? ⟨w.heap.size, 5, none⟩ = some (.int .i32 x.o) := Zb.i (i := 5) rfl; have qb6 : wq.cell? ⟨w.heap.size, 6, none⟩ = some (.int .i32 x.px) := Zb.i (i := 6) rfl; have qb7 : wq.cell? ⟨w.heap.size, 7, none⟩ = some (.int .i32 x.py) := Zb.i (i := 7) rfl; have qb8 : wq.cell? ⟨w.heap.size, 8, none⟩ = some (.int .i32 lx) := Zb.i (i := 8) rfl; have qb9 : wq.cell? ⟨w.heap.size, 9, none⟩ = some (.int .i32 ly) := Zb.i (i := 9) rfl; have qzb := Zb.lt; go_simp; (try with_reducible rfl))
    refine sT 1 hH ?_
    refine sT 2 hH ?_
    refine rtk 3 (oi := ⟨some 45, .load 21 (.tmp 44), _, _, _, none⟩) (v := ?_) rfl ?_ hH ?_
    rotate_left
    · (intro wq hSw; (try dsimp only at hSw); obtain ⟨Zb, -, -⟩ := hSw; have qb0 : wq.cell? ⟨w.heap.size, 0, none⟩ = some (.int .u32 x.k) := Zb.i (i := 0) rfl; have qb1 : wq.cell? ⟨w.heap.size, 1, none⟩ = some (.int .i32 x.r) := Zb.i (i := 1) rfl; have qb2 : wq.cell? ⟨w.heap.size, 2, none⟩ = some (.int .i32 x.ax) := Zb.i (i := 2) rfl; have qb3 : wq.cell? ⟨w.heap.size, 3, none⟩ = some (.int .i32 x.ay) := Zb.i (i := 3) rfl; have qb4 : wq.cell? ⟨w.heap.size, 4, none⟩ = some (.int .i32 x.m) := Zb.i (i := 4) rfl; have qb5 : wq.cell? ⟨w.heap.size, 5, none⟩ = some (.int .i32 x.o) := Zb.i (i := 5) rfl; have qb6 : wq.cell? ⟨w.heap.size, 6, none⟩ = some (.int .i32 x.px) := Zb.i (i := 6) rfl; have qb7 : wq.cell? ⟨w.heap.size, 7, none⟩ = some (.int .i32 x.py) := Zb.i (i := 7) rfl; have qb8 : wq.cell? ⟨w.heap.size, 8, none⟩ = some (.int .i32 lx) := Zb.i (i := 8) rfl; have qb9 : wq.cell? ⟨w.heap.size, 9, none⟩ = some (.int .i32 ly) := Zb.i (i := 9) rfl; have qzb := Zb.lt; go_simp; (try with_reducible rfl))
    try simp only [Act.put, List.setIfInBounds_toArray, List.set_cons_zero, List.set_cons_succ]
    refine sT 4 hH ?_
    refine sT 5 hH ?_
    refine sT 6 hH ?_
    refine sN 7 hH ?_
    refine sN 8 hH ?_
    refine sN 9 hH ?_
    refine rtk 10 (oi := ⟨some 52, .load 21 (.tmp 51), _, _, _, some (7, false)⟩) (v := ?_) rfl ?_ hH ?_
    rotate_left
    · (intro wq hSw; (try dsimp only at hSw); obtain ⟨Zb, -, -⟩ := hSw; have qb0 : wq.cell? ⟨w.heap.size, 0, none⟩ = some (.int .u32 x.k) := Zb.i (i := 0) rfl; have qb1 : wq.cell? ⟨w.heap.size, 1, none⟩ = some (.int .i32 x.r) := Zb.i (i := 1) rfl; have qb2 : wq.cell? ⟨w.heap.size, 2, none⟩ = some (.int .i32 x.ax) := Zb.i (i := 2) rfl; have qb3 : wq.cell? ⟨w.heap.size, 3, none⟩ = some (.int .i32 x.ay) := Zb.i (i := 3) rfl; have qb4 : wq.cell? ⟨w.heap.size, 4, none⟩ = some (.int .i32 x.m) := Zb.i (i := 4) rfl; have qb5 : wq.cell? ⟨w.heap.size, 5, none⟩ = some (.int .i32 x.o) := Zb.i (i := 5) rfl; have qb6 : wq.cell? ⟨w.heap.size, 6, none⟩ = some (.int .i32 x.px) := Zb.i (i := 6) rfl; have qb7 : wq.cell? ⟨w.heap.size, 7, none⟩ = some (.int .i32 x.py) := Zb.i (i := 7) rfl; have qb8 : wq.cell? ⟨w.heap.size, 8, none⟩ = some (.int .i32 lx) := Zb.i (i := 8) rfl; have qb9 : wq.cell? ⟨w.heap.size, 9, none⟩ = some (.int .i32 ly) := Zb.i (i := 9) rfl; have qzb := Zb.lt; go_simp; (try with_reducible rfl))
    try simp only [Act.put, List.setIfInBounds_toArray, List.set_cons_zero, List.set_cons_succ]
    refine sN 11 hH ?_
    refine sN 12 hH ?_
    refine sT 13 hH ?_
    refine sN 14 hH ?_
    refine sC 15 (fun K hK => ?_)
    obtain ⟨Zb, _, gg⟩ := id hH
    have sr0 := Yr.i (i := 0) rfl
    have sr1 := Yr.i (i := 1) rfl
    have sr2 := Yr.i (i := 2) rfl
    have sr3 := Yr.i (i := 3) rfl
    have sr4 := Yr.i (i := 4) rfl
    have sr5 := Yr.i (i := 5) rfl
    have sr6 := Yr.i (i := 6) rfl
    have sr7 := Yr.i (i := 7) rfl
    have sr8 := Yr.i (i := 8) rfl
    have sr9 := Yr.i (i := 9) rfl
    have sfr0 := Yr.frz 0
    have sfr1 := Yr.frz 1
    have sfr2 := Yr.frz 2
    have sfr3 := Yr.frz 3
    have sfr4 := Yr.frz 4
    have sfr5 := Yr.frz 5
    have sfr6 := Yr.frz 6
    have sfr7 := Yr.frz 7
    have sfr8 := Yr.frz 8
    have sfr9 := Yr.frz 9
    have szr := Yr.lt
    have zq := gg.size
    have kb := Zb.lt
    have kr := Yr.lt
    go_simp
    clear sr0 sr1 sr2 sr3 sr4 sr5 sr6 sr7 sr8 sr9 sfr0 sfr1 sfr2 sfr3 sfr4 sfr5 sfr6 sfr7 sfr8 sfr9 szr
    replace Yr := Yr.set [.int .u32 x.k, .int .i32 x.r, .int .i32 x.ax, .int .i32 x.ay, .int .i32 x.m, .int .i32 x.o, .int .i32 x.px, .int .i32 x.py, .int .i32 lx, .int .i32 ly] (by simp)
    simp only [setAll, Nat.zero_add, Nat.reduceAdd] at Yr
    refine hK.out _ _ (by (try dsimp only); exact ⟨by simpa only [setAll, Nat.zero_add, Nat.reduceAdd] using Zb.far (b := w.heap.size + 1 + 1) (by first | (simp; done) | (simp; omega)) [.int .u32 x.k, .int .i32 x.r, .int .i32 x.ax, .int .i32 x.ay, .int .i32 x.m, .int .i32 x.o, .int .i32 x.px, .int .i32 x.py, .int .i32 lx, .int .i32 ly], ⟨_, by rfl, Yr⟩, by simpa only [setAll, Nat.zero_add, Nat.reduceAdd] using kep_setAll (by first | omega | (simp; omega)) [.int .u32 x.k, .int .i32 x.r, .int .i32 x.ax, .int .i32 x.ay, .int .i32 x.m, .int .i32 x.o, .int .i32 x.px, .int .i32 x.py, .int .i32 lx, .int .i32 ly] 0 gg⟩) (fun hH2 => ?_)
    clear zq kb kr Zb gg
    clear hK K hH; have hH := hH2; clear hH2
    revert Yr hH; generalize World.setCell _ _ _ = V4_15; intro Yr hH
    refine sN 16 hH ?_
    refine sE ?_
    obtain ⟨Zb, -, gg⟩ := hH
    have Zr := Yr; clear Yr
    go_wp2_with fail
    have r0 := Zr.i (i := 0) rfl
    have r1 := Zr.i (i := 1) rfl
    have r2 := Zr.i (i := 2) rfl
    have r3 := Zr.i (i := 3) rfl
    have r4 := Zr.i (i := 4) rfl
    have r5 := Zr.i (i := 5) rfl
    have r6 := Zr.i (i := 6) rfl
    have r7 := Zr.i (i := 7) rfl
    have r8 := Zr.i (i := 8) rfl
    have r9 := Zr.i (i := 9) rfl
    exact bodyPost_ret (v := .tuple #[.agg #[.int .u32 x.k, .int .i32 x.r, .int .i32 x.ax, .int .i32 x.ay, .int .i32 x.m, .int .i32 x.o, .int .i32 x.px, .int .i32 x.py, .int .i32 lx, .int .i32 ly], .bool zy]) (by simp [results, Try.results18, go_sem, r0, r1, r2, r3, r4, r5, r6, r7, r8, r9]) rfl ⟨rfl, gg⟩
theorem rips {x : Bd} {j k : Int} (h : okI x) (hj : -2147483648 ≤ j ∧ j < 2147483648) (hk : -2147483648 ≤ k ∧ k < 2147483648) : RPs x j k := fun w => by
  have hv := vb_of h
  have x0 := hv.vx0; have x1 := hv.vx1; have x2 := hv.vy0; have x3 := hv.vy1; have m0 := hv.m0; have m1 := hv.m1
  have b1 := ps_bd hj ⟨m0, m1⟩ ⟨x0, x1⟩
  have b2 := ps_bd hk ⟨m0, m1⟩ ⟨x2, x3⟩
  have l1 := limJ_bd (psX x j)
  have l2 := limJ_bd (psY x k)
  have FX := Lib.hid (fun w => pkI (reffl_any (j * x.m) 65536 (by unfold I64; omega) (by decide) (by decide) w))
  have FY := Lib.hid (fun w => pkI (reffl_any (k * x.m) 65536 (by unfold I64; omega) (by decide) (by decide) w))
  have LX := Lib.hid (fun w => (show Calls Try.prog 27 #[.int .i64 (psX x j), .int .i64 16777216] w fun e w' => e = .returned (.int .i64 (limJ (psX x j))) ∧ w = w' from reflim_any (psX x j) 16777216 (by unfold I64 psX; omega) (by decide) (by decide) w))
  have LY := Lib.hid (fun w => (show Calls Try.prog 27 #[.int .i64 (psY x k), .int .i64 16777216] w fun e w' => e = .returned (.int .i64 (limJ (psY x k))) ∧ w = w' from reflim_any (psY x k) 16777216 (by unfold I64 psY; omega) (by decide) (by decide) w))
  have e : psC x j k = ((limJ (psX x j) != psX x j) || (limJ (psY x k) != psY x k)) := by
    unfold psC
    congr 1 <;> rw [Bool.eq_iff_iff, decide_eq_true_iff, bne_iff_ne]
  unfold psV
  rw [e]
  have A := fun (z : Int) (hz : -9223372036854775808 ≤ z ∧ z < 9223372036854775808) => (show IntKind.i64.wrap z = z by rw [IntKind.wrap_i64]; omega)
  have C := fun (z : Int) (hz : -16777216 ≤ z ∧ z ≤ 16777216) => (show IntKind.i32.wrap z = z by rw [IntKind.wrap_i32]; omega)
  exact rps FX FY LX LY (A _ (by omega)) (A _ (by omega)) (A _ (by omega)) (A _ (by omega)) (A _ (by omega)) (A _ (by omega)) (A _ (by omega)) (A _ (by omega)) (A _ (by omega)) (C _ l1) (C _ l2) (A _ (by omega)) (A _ (by omega)) rfl rfl w
end Go.Proofs.Ytlabeelbbkbkaaa
