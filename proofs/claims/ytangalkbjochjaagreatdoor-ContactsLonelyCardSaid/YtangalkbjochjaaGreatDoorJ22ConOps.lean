import Derived.Test.YtangalkbjochjaaGreatDoorJ21ConOps1
import Derived.Deep.DeepCutAuto
import Derived.Deep.QuietTactic
import Derived.BigQuiet
import Derived.Test.YtangalkbjochjaaGreatDoorConCon

/-! J22ConOps: ConOps, ConFin. -/

section
/-
  Package contact: its functions, three.
-/
namespace Go.Proofs.YtangalkbjochjaaGreatDoor
open Go.RowKit Go.Lib

set_option maxRecDepth 100000 in
set_option maxHeartbeats 4000000 in
theorem kof1 {x y l h : Bd} {a b c d p q r s dx dy t : Int} (X1 : KOd x y l h a b c d p q r s) (X2 : KDi l h a b c d p q r s dx dy) (X3 : KRa l h a b c d p q r s t) (X4 : KCl dx dy t true) {u v n D : Int} (X5 : KUn dx dy u v) (X6 : KLn dx dy n) (h1 : 0 ≤ t ∧ t ≤ 8388608) (h2 : 0 ≤ n ∧ n ≤ t) (hD : t - n = D) : QOf x y ⟨l.k, h.k, u, v, D⟩ true := fun w => by
  have C1 := Lib.hid X1
  have C2 := Lib.hid X2
  have C3 := Lib.hid X3
  have C4 := Lib.hid X4
  have C5 := Lib.hid X5
  have C6 := Lib.hid X6
  have f1 : IntKind.i64.wrap (t - n) = D := by rw [IntKind.wrap_i64]; omega
  have f2 : IntKind.i32.wrap D = D := by rw [IntKind.wrap_i32]; omega
  clear X5 X6 h1 h2 hD
  clear X1 X2 X3 X4
  go_enter Tryz.func37, Tryz.ntmps37
  go_upto_region 2 with (first
    | ((with_reducible refine (C1.out _).mono ?_); rintro e w1 ⟨rfl, g1⟩
       have gg := kep_next (kep_more (kep_more (kep_more (Kep.refl _ _) _) _) _) g1
       have Zr : ZC w1 (w.heap.size + 1 + 1) [.int .u32 0, .int .u32 0, .int .i32 0, .int .i32 0, .int .i32 0] := ZC.kep (zc_new' _ _ _ (by first | rfl | simp)) g1))
  have q1 : w.heap.size + 1 + 1 < w1.heap.size := Zr.lt
  generalize hW : World.alloc (World.alloc w1 _) _ = W2
  replace Zr : ZC W2 (w.heap.size + 1 + 1) [.int .u32 0, .int .u32 0, .int .i32 0, .int .i32 0, .int .i32 0] := by rw [← hW]; exact (ZC.more (ZC.more Zr _) _)
  have Zl : ZC W2 (w1.heap.size) [.int .u32 l.k, .int .i32 l.r, .int .i32 l.ax, .int .i32 l.ay, .int .i32 l.m, .int .i32 l.o, .int .i32 l.px, .int .i32 l.py, .int .i32 l.vx, .int .i32 l.vy, .int .i32 a, .int .i32 b, .int .i32 c, .int .i32 d] := by rw [← hW]; exact (ZC.more (zc_new' _ _ _ (by first | rfl | simp)) _)
  have Zh : ZC W2 (w1.heap.size + 1) [.int .u32 h.k, .int .i32 h.r, .int .i32 h.ax, .int .i32 h.ay, .int .i32 h.m, .int .i32 h.o, .int .i32 h.px, .int .i32 h.py, .int .i32 h.vx, .int .i32 h.vy, .int .i32 p, .int .i32 q, .int .i32 r, .int .i32 s] := by rw [← hW]; exact (zc_new' _ _ _ (by first | rfl | simp))
  replace gg : Kep w.heap.size w W2 := by rw [← hW]; exact (kep_more (kep_more gg _) _)
  clear hW
  have l0 : W2.cell? ⟨w1.heap.size, 0, none⟩ = some (.int .u32 l.k) := Zl.i (i := 0) rfl
  have l1 : W2.cell? ⟨w1.heap.size, 1, none⟩ = some (.int .i32 l.r) := Zl.i (i := 1) rfl
  have l2 : W2.cell? ⟨w1.heap.size, 2, none⟩ = some (.int .i32 l.ax) := Zl.i (i := 2) rfl
  have l3 : W2.cell? ⟨w1.heap.size, 3, none⟩ = some (.int .i32 l.ay) := Zl.i (i := 3) rfl
  have l4 : W2.cell? ⟨w1.heap.size, 4, none⟩ = some (.int .i32 l.m) := Zl.i (i := 4) rfl
  have l5 : W2.cell? ⟨w1.heap.size, 5, none⟩ = some (.int .i32 l.o) := Zl.i (i := 5) rfl
  have l6 : W2.cell? ⟨w1.heap.size, 6, none⟩ = some (.int .i32 l.px) := Zl.i (i := 6) rfl
  have l7 : W2.cell? ⟨w1.heap.size, 7, none⟩ = some (.int .i32 l.py) := Zl.i (i := 7) rfl
  have l8 : W2.cell? ⟨w1.heap.size, 8, none⟩ = some (.int .i32 l.vx) := Zl.i (i := 8) rfl
  have l9 : W2.cell? ⟨w1.heap.size, 9, none⟩ = some (.int .i32 l.vy) := Zl.i (i := 9) rfl
  have l10 : W2.cell? ⟨w1.heap.size, 10, none⟩ = some (.int .i32 a) := Zl.i (i := 10) rfl
  have l11 : W2.cell? ⟨w1.heap.size, 11, none⟩ = some (.int .i32 b) := Zl.i (i := 11) rfl
  have l12 : W2.cell? ⟨w1.heap.size, 12, none⟩ = some (.int .i32 c) := Zl.i (i := 12) rfl
  have l13 : W2.cell? ⟨w1.heap.size, 13, none⟩ = some (.int .i32 d) := Zl.i (i := 13) rfl
  have zl := Zl.lt
  have h0 : W2.cell? ⟨w1.heap.size + 1, 0, none⟩ = some (.int .u32 h.k) := Zh.i (i := 0) rfl
  have h1 : W2.cell? ⟨w1.heap.size + 1, 1, none⟩ = some (.int .i32 h.r) := Zh.i (i := 1) rfl
  have h2 : W2.cell? ⟨w1.heap.size + 1, 2, none⟩ = some (.int .i32 h.ax) := Zh.i (i := 2) rfl
  have h3 : W2.cell? ⟨w1.heap.size + 1, 3, none⟩ = some (.int .i32 h.ay) := Zh.i (i := 3) rfl
  have h4 : W2.cell? ⟨w1.heap.size + 1, 4, none⟩ = some (.int .i32 h.m) := Zh.i (i := 4) rfl
  have h5 : W2.cell? ⟨w1.heap.size + 1, 5, none⟩ = some (.int .i32 h.o) := Zh.i (i := 5) rfl
  have h6 : W2.cell? ⟨w1.heap.size + 1, 6, none⟩ = some (.int .i32 h.px) := Zh.i (i := 6) rfl
  have h7 : W2.cell? ⟨w1.heap.size + 1, 7, none⟩ = some (.int .i32 h.py) := Zh.i (i := 7) rfl
  have h8 : W2.cell? ⟨w1.heap.size + 1, 8, none⟩ = some (.int .i32 h.vx) := Zh.i (i := 8) rfl
  have h9 : W2.cell? ⟨w1.heap.size + 1, 9, none⟩ = some (.int .i32 h.vy) := Zh.i (i := 9) rfl
  have h10 : W2.cell? ⟨w1.heap.size + 1, 10, none⟩ = some (.int .i32 p) := Zh.i (i := 10) rfl
  have h11 : W2.cell? ⟨w1.heap.size + 1, 11, none⟩ = some (.int .i32 q) := Zh.i (i := 11) rfl
  have h12 : W2.cell? ⟨w1.heap.size + 1, 12, none⟩ = some (.int .i32 r) := Zh.i (i := 12) rfl
  have h13 : W2.cell? ⟨w1.heap.size + 1, 13, none⟩ = some (.int .i32 s) := Zh.i (i := 13) rfl
  have zh := Zh.lt
  have zr := Zr.lt
  go_upto_region 6 with (first
    | ((with_reducible refine (C2.out _).mono ?_); rintro e w3 ⟨rfl, g3⟩
       replace Zr := Zr.kep g3
       replace Zl := Zl.kep g3
       replace Zh := Zh.kep g3
       replace gg := kep_next gg g3
       have l0 : w3.cell? ⟨w1.heap.size, 0, none⟩ = some (.int .u32 l.k) := Zl.i (i := 0) rfl
       have l1 : w3.cell? ⟨w1.heap.size, 1, none⟩ = some (.int .i32 l.r) := Zl.i (i := 1) rfl
       have l2 : w3.cell? ⟨w1.heap.size, 2, none⟩ = some (.int .i32 l.ax) := Zl.i (i := 2) rfl
       have l3 : w3.cell? ⟨w1.heap.size, 3, none⟩ = some (.int .i32 l.ay) := Zl.i (i := 3) rfl
       have l4 : w3.cell? ⟨w1.heap.size, 4, none⟩ = some (.int .i32 l.m) := Zl.i (i := 4) rfl
       have l5 : w3.cell? ⟨w1.heap.size, 5, none⟩ = some (.int .i32 l.o) := Zl.i (i := 5) rfl
       have l6 : w3.cell? ⟨w1.heap.size, 6, none⟩ = some (.int .i32 l.px) := Zl.i (i := 6) rfl
       have l7 : w3.cell? ⟨w1.heap.size, 7, none⟩ = some (.int .i32 l.py) := Zl.i (i := 7) rfl
       have l8 : w3.cell? ⟨w1.heap.size, 8, none⟩ = some (.int .i32 l.vx) := Zl.i (i := 8) rfl
       have l9 : w3.cell? ⟨w1.heap.size, 9, none⟩ = some (.int .i32 l.vy) := Zl.i (i := 9) rfl
       have l10 : w3.cell? ⟨w1.heap.size, 10, none⟩ = some (.int .i32 a) := Zl.i (i := 10) rfl
       have l11 : w3.cell? ⟨w1.heap.size, 11, none⟩ = some (.int .i32 b) := Zl.i (i := 11) rfl
       have l12 : w3.cell? ⟨w1.heap.size, 12, none⟩ = some (.int .i32 c) := Zl.i (i := 12) rfl
       have l13 : w3.cell? ⟨w1.heap.size, 13, none⟩ = some (.int .i32 d) := Zl.i (i := 13) rfl
       have zl := Zl.lt
       have h0 : w3.cell? ⟨w1.heap.size + 1, 0, none⟩ = some (.int .u32 h.k) := Zh.i (i := 0) rfl
       have h1 : w3.cell? ⟨w1.heap.size + 1, 1, none⟩ = some (.int .i32 h.r) := Zh.i (i := 1) rfl
       have h2 : w3.cell? ⟨w1.heap.size + 1, 2, none⟩ = some (.int .i32 h.ax) := Zh.i (i := 2) rfl
       have h3 : w3.cell? ⟨w1.heap.size + 1, 3, none⟩ = some (.int .i32 h.ay) := Zh.i (i := 3) rfl
       have h4 : w3.cell? ⟨w1.heap.size + 1, 4, none⟩ = some (.int .i32 h.m) := Zh.i (i := 4) rfl
       have h5 : w3.cell? ⟨w1.heap.size + 1, 5, none⟩ = some (.int .i32 h.o) := Zh.i (i := 5) rfl
       have h6 : w3.cell? ⟨w1.heap.size + 1, 6, none⟩ = some (.int .i32 h.px) := Zh.i (i := 6) rfl
       have h7 : w3.cell? ⟨w1.heap.size + 1, 7, none⟩ = some (.int .i32 h.py) := Zh.i (i := 7) rfl
       have h8 : w3.cell? ⟨w1.heap.size + 1, 8, none⟩ = some (.int .i32 h.vx) := Zh.i (i := 8) rfl
       have h9 : w3.cell? ⟨w1.heap.size + 1, 9, none⟩ = some (.int .i32 h.vy) := Zh.i (i := 9) rfl
       have h10 : w3.cell? ⟨w1.heap.size + 1, 10, none⟩ = some (.int .i32 p) := Zh.i (i := 10) rfl
       have h11 : w3.cell? ⟨w1.heap.size + 1, 11, none⟩ = some (.int .i32 q) := Zh.i (i := 11) rfl
       have h12 : w3.cell? ⟨w1.heap.size + 1, 12, none⟩ = some (.int .i32 r) := Zh.i (i := 12) rfl
       have h13 : w3.cell? ⟨w1.heap.size + 1, 13, none⟩ = some (.int .i32 s) := Zh.i (i := 13) rfl
       have zh := Zh.lt)
    | ((with_reducible refine (C3.out _).mono ?_); rintro e w4 ⟨rfl, g4⟩
       replace Zr := Zr.kep g4
       replace Zl := Zl.kep g4
       replace Zh := Zh.kep g4
       replace gg := kep_next gg g4)
    | ((with_reducible refine (C4.out _).mono ?_); rintro e w' ⟨rfl, rfl⟩))
  refine wp_region_noPanic ?_
  refine wp_region_held_drew (S := (fun w' => (∃ l : List Value, l.length = 5 ∧ ZC w' (w.heap.size + 1 + 1) l) ∧ ZC w' (w1.heap.size) [.int .u32 l.k, .int .i32 l.r, .int .i32 l.ax, .int .i32 l.ay, .int .i32 l.m, .int .i32 l.o, .int .i32 l.px, .int .i32 l.py, .int .i32 l.vx, .int .i32 l.vy, .int .i32 a, .int .i32 b, .int .i32 c, .int .i32 d] ∧ ZC w' (w1.heap.size + 1) [.int .u32 h.k, .int .i32 h.r, .int .i32 h.ax, .int .i32 h.ay, .int .i32 h.m, .int .i32 h.o, .int .i32 h.px, .int .i32 h.py, .int .i32 h.vx, .int .i32 h.vy, .int .i32 p, .int .i32 q, .int .i32 r, .int .i32 s] ∧ Kep w.heap.size w w')) (by kernel_rfl) (⟨⟨_, by rfl, Zr.drew⟩, Zl.drew, Zh.drew, kep_drew gg⟩) (fun hH => ?_)
  have Yr := Zr.drew
  clear Zr Zl Zh gg
  refine rtk 0 (oi := ⟨some 32, .fieldAddr 100 (.tmp 6) 0, _, _, _, none⟩) (v := ?_) rfl ?_ hH ?_
  rotate_left
  · (intro wq hSw; (try dsimp only at hSw); go_simp; (try with_reducible rfl))
  refine rtk 1 (oi := ⟨some 33, .fieldAddr 46 (.tmp 32) 0, _, _, _, none⟩) (v := ?_) rfl ?_ hH ?_
  rotate_left
  · (intro wq hSw; (try dsimp only at hSw); go_simp; (try with_reducible rfl))
  refine rtk 2 (oi := ⟨some 34, .load 24 (.tmp 33), _, _, _, none⟩) (v := ?_) rfl ?_ hH ?_
  rotate_left
  · (intro wq hSw; (try dsimp only at hSw); obtain ⟨-, Zl, Zh, -⟩ := hSw; have ql0 : wq.cell? ⟨w1.heap.size, 0, none⟩ = some (.int .u32 l.k) := Zl.i (i := 0) rfl; have ql1 : wq.cell? ⟨w1.heap.size, 1, none⟩ = some (.int .i32 l.r) := Zl.i (i := 1) rfl; have ql2 : wq.cell? ⟨w1.heap.size, 2, none⟩ = some (.int .i32 l.ax) := Zl.i (i := 2) rfl; have ql3 : wq.cell? ⟨w1.heap.size, 3, none⟩ = some (.int .i32 l.ay) := Zl.i (i := 3) rfl; have ql4 : wq.cell? ⟨w1.heap.size, 4, none⟩ = some (.int .i32 l.m) := Zl.i (i := 4) rfl; have ql5 : wq.cell? ⟨w1.heap.size, 5, none⟩ = some (.int .i32 l.o) := Zl.i (i := 5) rfl; have ql6 : wq.cell? ⟨w1.heap.size, 6, none⟩ = some (.int .i32 l.px) := Zl.i (i := 6) rfl; have ql7 : wq.cell? ⟨w1.heap.size, 7, none⟩ = some (.int .i32 l.py) := Zl.i (i := 7) rfl; have ql8 : wq.cell? ⟨w1.heap.size, 8, none⟩ = some (.int .i32 l.vx) := Zl.i (i := 8) rfl; have ql9 : wq.cell? ⟨w1.heap.size, 9, none⟩ = some (.int .i32 l.vy) := Zl.i (i := 9) rfl; have ql10 : wq.cell? ⟨w1.heap.size, 10, none⟩ = some (.int .i32 a) := Zl.i (i := 10) rfl; have ql11 : wq.cell? ⟨w1.heap.size, 11, none⟩ = some (.int .i32 b) := Zl.i (i := 11) rfl; have ql12 : wq.cell? ⟨w1.heap.size, 12, none⟩ = some (.int .i32 c) := Zl.i (i := 12) rfl; have ql13 : wq.cell? ⟨w1.heap.size, 13, none⟩ = some (.int .i32 d) := Zl.i (i := 13) rfl; have qzl := Zl.lt; have qh0 : wq.cell? ⟨w1.heap.size + 1, 0, none⟩ = some (.int .u32 h.k) := Zh.i (i := 0) rfl; have qh1 : wq.cell? ⟨w1.heap.size + 1, 1, none⟩ = some (.int .i32 h.r) := Zh.i (i := 1) rfl; have qh2 : wq.cell? ⟨w1.heap.size + 1, 2, none⟩ = some (.int .i32 h.ax) := Zh.i (i := 2) rfl; have qh3 : wq.cell? ⟨w1.heap.size + 1, 3, none⟩ = some (.int .i32 h.ay) := Zh.i (i := 3) rfl; have qh4 : wq.cell? ⟨w1.heap.size + 1, 4, none⟩ = some (.int .i32 h.m) := Zh.i (i := 4) rfl; have qh5 : wq.cell? ⟨w1.heap.size + 1, 5, none⟩ = some (.int .i32 h.o) := Zh.i (i := 5) rfl; have qh6 : wq.cell? ⟨w1.heap.size + 1, 6, none⟩ = some (.int .i32 h.px) := Zh.i (i := 6) rfl; have qh7 : wq.cell? ⟨w1.heap.size + 1, 7, none⟩ = some (.int .i32 h.py) := Zh.i (i := 7) rfl; have qh8 : wq.cell? ⟨w1.heap.size + 1, 8, none⟩ = some (.int .i32 h.vx) := Zh.i (i := 8) rfl; have qh9 : wq.cell? ⟨w1.heap.size + 1, 9, none⟩ = some (.int .i32 h.vy) := Zh.i (i := 9) rfl; have qh10 : wq.cell? ⟨w1.heap.size + 1, 10, none⟩ = some (.int .i32 p) := Zh.i (i := 10) rfl; have qh11 : wq.cell? ⟨w1.heap.size + 1, 11, none⟩ = some (.int .i32 q) := Zh.i (i := 11) rfl; have qh12 : wq.cell? ⟨w1.heap.size + 1, 12, none⟩ = some (.int .i32 r) := Zh.i (i := 12) rfl; have qh13 : wq.cell? ⟨w1.heap.size + 1, 13, none⟩ = some (.int .i32 s) := Zh.i (i := 13) rfl; have qzh := Zh.lt; go_simp; (try with_reducible rfl))
  refine rtk 3 (oi := ⟨some 35, .fieldAddr 100 (.tmp 7) 0, _, _, _, none⟩) (v := ?_) rfl ?_ hH ?_
  rotate_left
  · (intro wq hSw; (try dsimp only at hSw); go_simp; (try with_reducible rfl))
  try simp only [Act.put, List.setIfInBounds_toArray, List.set_cons_zero, List.set_cons_succ]
  refine rtk 4 (oi := ⟨some 36, .fieldAddr 46 (.tmp 35) 0, _, _, _, none⟩) (v := ?_) rfl ?_ hH ?_
  rotate_left
  · (intro wq hSw; (try dsimp only at hSw); go_simp; (try with_reducible rfl))
  refine rtk 5 (oi := ⟨some 37, .load 24 (.tmp 36), _, _, _, none⟩) (v := ?_) rfl ?_ hH ?_
  rotate_left
  · (intro wq hSw; (try dsimp only at hSw); obtain ⟨-, Zl, Zh, -⟩ := hSw; have ql0 : wq.cell? ⟨w1.heap.size, 0, none⟩ = some (.int .u32 l.k) := Zl.i (i := 0) rfl; have ql1 : wq.cell? ⟨w1.heap.size, 1, none⟩ = some (.int .i32 l.r) := Zl.i (i := 1) rfl; have ql2 : wq.cell? ⟨w1.heap.size, 2, none⟩ = some (.int .i32 l.ax) := Zl.i (i := 2) rfl; have ql3 : wq.cell? ⟨w1.heap.size, 3, none⟩ = some (.int .i32 l.ay) := Zl.i (i := 3) rfl; have ql4 : wq.cell? ⟨w1.heap.size, 4, none⟩ = some (.int .i32 l.m) := Zl.i (i := 4) rfl; have ql5 : wq.cell? ⟨w1.heap.size, 5, none⟩ = some (.int .i32 l.o) := Zl.i (i := 5) rfl; have ql6 : wq.cell? ⟨w1.heap.size, 6, none⟩ = some (.int .i32 l.px) := Zl.i (i := 6) rfl; have ql7 : wq.cell? ⟨w1.heap.size, 7, none⟩ = some (.int .i32 l.py) := Zl.i (i := 7) rfl; have ql8 : wq.cell? ⟨w1.heap.size, 8, none⟩ = some (.int .i32 l.vx) := Zl.i (i := 8) rfl; have ql9 : wq.cell? ⟨w1.heap.size, 9, none⟩ = some (.int .i32 l.vy) := Zl.i (i := 9) rfl; have ql10 : wq.cell? ⟨w1.heap.size, 10, none⟩ = some (.int .i32 a) := Zl.i (i := 10) rfl; have ql11 : wq.cell? ⟨w1.heap.size, 11, none⟩ = some (.int .i32 b) := Zl.i (i := 11) rfl; have ql12 : wq.cell? ⟨w1.heap.size, 12, none⟩ = some (.int .i32 c) := Zl.i (i := 12) rfl; have ql13 : wq.cell? ⟨w1.heap.size, 13, none⟩ = some (.int .i32 d) := Zl.i (i := 13) rfl; have qzl := Zl.lt; have qh0 : wq.cell? ⟨w1.heap.size + 1, 0, none⟩ = some (.int .u32 h.k) := Zh.i (i := 0) rfl; have qh1 : wq.cell? ⟨w1.heap.size + 1, 1, none⟩ = some (.int .i32 h.r) := Zh.i (i := 1) rfl; have qh2 : wq.cell? ⟨w1.heap.size + 1, 2, none⟩ = some (.int .i32 h.ax) := Zh.i (i := 2) rfl; have qh3 : wq.cell? ⟨w1.heap.size + 1, 3, none⟩ = some (.int .i32 h.ay) := Zh.i (i := 3) rfl; have qh4 : wq.cell? ⟨w1.heap.size + 1, 4, none⟩ = some (.int .i32 h.m) := Zh.i (i := 4) rfl; have qh5 : wq.cell? ⟨w1.heap.size + 1, 5, none⟩ = some (.int .i32 h.o) := Zh.i (i := 5) rfl; have qh6 : wq.cell? ⟨w1.heap.size + 1, 6, none⟩ = some (.int .i32 h.px) := Zh.i (i := 6) rfl; have qh7 : wq.cell? ⟨w1.heap.size + 1, 7, none⟩ = some (.int .i32 h.py) := Zh.i (i := 7) rfl; have qh8 : wq.cell? ⟨w1.heap.size + 1, 8, none⟩ = some (.int .i32 h.vx) := Zh.i (i := 8) rfl; have qh9 : wq.cell? ⟨w1.heap.size + 1, 9, none⟩ = some (.int .i32 h.vy) := Zh.i (i := 9) rfl; have qh10 : wq.cell? ⟨w1.heap.size + 1, 10, none⟩ = some (.int .i32 p) := Zh.i (i := 10) rfl; have qh11 : wq.cell? ⟨w1.heap.size + 1, 11, none⟩ = some (.int .i32 q) := Zh.i (i := 11) rfl; have qh12 : wq.cell? ⟨w1.heap.size + 1, 12, none⟩ = some (.int .i32 r) := Zh.i (i := 12) rfl; have qh13 : wq.cell? ⟨w1.heap.size + 1, 13, none⟩ = some (.int .i32 s) := Zh.i (i := 13) rfl; have qzh := Zh.lt; go_simp; (try with_reducible rfl))
  refine rtk 6 (oi := ⟨some 38, .build 31 #[(0, .tmp 34), (1, .tmp 37)], _, _, _, none⟩) (v := ?_) rfl ?_ hH ?_
  rotate_left
  · (intro wq hSw; (try dsimp only at hSw); go_simp; (try with_reducible rfl))
  refine rtk 7 (oi := ⟨some 39, .move (.tmp 8), _, _, _, none⟩) (v := ?_) rfl ?_ hH ?_
  rotate_left
  · (intro wq hSw; (try dsimp only at hSw); go_simp; (try with_reducible rfl))
  try simp only [Act.put, List.setIfInBounds_toArray, List.set_cons_zero, List.set_cons_succ]
  refine rtk 8 (oi := ⟨some 40, .move (.tmp 9), _, _, _, none⟩) (v := ?_) rfl ?_ hH ?_
  rotate_left
  · (intro wq hSw; (try dsimp only at hSw); go_simp; (try with_reducible rfl))
  refine rtk 10 (oi := ⟨some 42, .move (.tmp 10), _, _, _, none⟩) (v := ?_) rfl ?_ hH ?_
  rotate_left
  · (intro wq hSw; (try dsimp only at hSw); go_simp; (try with_reducible rfl))
  refine rtk 11 (oi := ⟨some 43, .move (.tmp 8), _, _, _, none⟩) (v := ?_) rfl ?_ hH ?_
  rotate_left
  · (intro wq hSw; (try dsimp only at hSw); go_simp; (try with_reducible rfl))
  refine rtk 12 (oi := ⟨some 44, .move (.tmp 9), _, _, _, none⟩) (v := ?_) rfl ?_ hH ?_
  rotate_left
  · (intro wq hSw; (try dsimp only at hSw); go_simp; (try with_reducible rfl))
  try simp only [Act.put, List.setIfInBounds_toArray, List.set_cons_zero, List.set_cons_succ]
  refine wpAnyH_ready (rs := [9]) (by kernel_rfl) (by simp) ?_
  refine AllReadyH.cons (o := ⟨some 41, .call { callee := .value (.func 57), args := #[.tmp 39, .tmp 40], argTypes := #[2, 2] }, _, _, _, none⟩) rfl (fun K hK => ?_) AllReadyH.nil
  go_simp
  (with_reducible refine (C5.out _).mono ?_); rintro e v6_9 ⟨rfl, g⟩
  replace Yr := Yr.kep g
  refine hK.out _ _ (by (try dsimp only); obtain ⟨_, Zl, Zh, gg⟩ := id hH; exact ⟨⟨_, by rfl, Yr⟩, Zl.kep g, Zh.kep g, kep_next gg g⟩) (fun hH2 => ?_)
  clear hK K hH; have hH := hH2; clear hH2
  try simp only [Act.put, List.setIfInBounds_toArray, List.set_cons_zero, List.set_cons_succ]
  refine wpAnyH_ready (rs := [13]) (by kernel_rfl) (by simp) ?_
  refine AllReadyH.cons (o := ⟨some 45, .call { callee := .value (.func 58), args := #[.tmp 43, .tmp 44], argTypes := #[2, 2] }, _, _, _, none⟩) rfl (fun K hK => ?_) AllReadyH.nil
  go_simp
  (with_reducible refine (C6.out _).mono ?_); rintro e v6_13 ⟨rfl, g⟩
  replace Yr := Yr.kep g
  refine hK.out _ _ (by (try dsimp only); obtain ⟨_, Zl, Zh, gg⟩ := id hH; exact ⟨⟨_, by rfl, Yr⟩, Zl.kep g, Zh.kep g, kep_next gg g⟩) (fun hH2 => ?_)
  clear hK K hH; have hH := hH2; clear hH2
  refine rtk 14 (oi := ⟨some 46, .binOp .sub 2 (.tmp 42) (.tmp 45) 2, _, _, _, none⟩) (v := ?_) rfl ?_ hH ?_
  rotate_left
  · (intro wq hSw; (try dsimp only at hSw); go_simp; (try with_reducible rfl))
  refine rtk 15 (oi := ⟨some 47, .convert 2 21 (.tmp 46), _, _, _, none⟩) (v := ?_) rfl ?_ hH ?_
  rotate_left
  · (intro wq hSw; (try dsimp only at hSw); go_simp; (try with_reducible rfl))
  refine rtk 16 (oi := ⟨some 48, .build 35 #[(0, .tmp 38), (1, .tmp 41), (2, .tmp 47)], _, _, _, none⟩) (v := ?_) rfl ?_ hH ?_
  rotate_left
  · (intro wq hSw; (try dsimp only at hSw); go_simp; (try with_reducible rfl))
  try simp only [Act.put, List.setIfInBounds_toArray, List.set_cons_zero, List.set_cons_succ]
  refine wpAnyH_ready (rs := [17]) (by kernel_rfl) (by simp) ?_
  refine AllReadyH.cons (o := ⟨none, .store 35 (.tmp 4) (.tmp 48), _, _, _, none⟩) rfl (fun K hK => ?_) AllReadyH.nil
  obtain ⟨_, Zl, Zh, gg⟩ := id hH
  have sr0 := Yr.i (i := 0) rfl
  have sr1 := Yr.i (i := 1) rfl
  have sr2 := Yr.i (i := 2) rfl
  have sr3 := Yr.i (i := 3) rfl
  have sr4 := Yr.i (i := 4) rfl
  have sfr0 := Yr.frz 0
  have sfr1 := Yr.frz 1
  have sfr2 := Yr.frz 2
  have sfr3 := Yr.frz 3
  have sfr4 := Yr.frz 4
  have szr := Yr.lt
  have zq := gg.size
  have kr := Yr.lt
  have kl := Zl.lt
  have kh := Zh.lt
  go_simp
  clear sr0 sr1 sr2 sr3 sr4 sfr0 sfr1 sfr2 sfr3 sfr4 szr
  replace Yr := Yr.set [.int .u32 l.k, .int .u32 h.k, .int .i32 u, .int .i32 v, .int .i32 D] (by simp)
  simp only [setAll, Nat.zero_add, Nat.reduceAdd] at Yr
  refine hK.out _ _ (by (try dsimp only); exact ⟨⟨_, by rfl, Yr⟩, by simpa only [setAll, Nat.zero_add, Nat.reduceAdd] using Zl.far (b := w.heap.size + 1 + 1) (by first | (simp; done) | (simp; omega)) [.int .u32 l.k, .int .u32 h.k, .int .i32 u, .int .i32 v, .int .i32 D], by simpa only [setAll, Nat.zero_add, Nat.reduceAdd] using Zh.far (b := w.heap.size + 1 + 1) (by first | (simp; done) | (simp; omega)) [.int .u32 l.k, .int .u32 h.k, .int .i32 u, .int .i32 v, .int .i32 D], by simpa only [setAll, Nat.zero_add, Nat.reduceAdd] using kep_setAll (by first | omega | (simp; omega)) [.int .u32 l.k, .int .u32 h.k, .int .i32 u, .int .i32 v, .int .i32 D] 0 gg⟩) (fun hH2 => ?_)
  clear zq kr kl kh Zl Zh gg
  clear hK K hH; have hH := hH2; clear hH2
  revert Yr hH; generalize World.setCell _ _ _ = V6_17; intro Yr hH
  refine rtk 18 (oi := ⟨some 5, .assign (.const (Value.bool true)), _, _, _, none⟩) (v := ?_) rfl ?_ hH ?_
  rotate_left
  · (intro wq hSw; (try dsimp only at hSw); go_simp; (try with_reducible rfl))
  try simp only [Act.put, List.setIfInBounds_toArray, List.set_cons_zero, List.set_cons_succ]
  refine wpAnyH_done (by kernel_rfl) ?_ _
  refine NoPanic.normal ?_
  obtain ⟨-, Zl, Zh, gg⟩ := hH
  have Zr := Yr; clear Yr
  go_wp2_with fail
  have r0 := Zr.i (i := 0) rfl
  have r1 := Zr.i (i := 1) rfl
  have r2 := Zr.i (i := 2) rfl
  have r3 := Zr.i (i := 3) rfl
  have r4 := Zr.i (i := 4) rfl
  exact bodyPost_ret (v := .tuple #[.agg #[.int .u32 l.k, .int .u32 h.k, .int .i32 u, .int .i32 v, .int .i32 D], .bool true]) (by simp [results, Tryz.results37, go_sem, r0, r1, r2, r3, r4]) rfl ⟨rfl, gg⟩
set_option maxRecDepth 100000 in
set_option maxHeartbeats 4000000 in
theorem kof0 {x y l h : Bd} {a b c d p q r s dx dy t : Int} (X1 : KOd x y l h a b c d p q r s) (X2 : KDi l h a b c d p q r s dx dy) (X3 : KRa l h a b c d p q r s t) (X4 : KCl dx dy t false) : QOf x y ⟨0, 0, 0, 0, 0⟩ false := fun w => by
  have C1 := Lib.hid X1
  have C2 := Lib.hid X2
  have C3 := Lib.hid X3
  have C4 := Lib.hid X4
  clear X1 X2 X3 X4
  go_enter Tryz.func37, Tryz.ntmps37
  go_upto_region 2 with (first
    | ((with_reducible refine (C1.out _).mono ?_); rintro e w1 ⟨rfl, g1⟩
       have gg := kep_next (kep_more (kep_more (kep_more (Kep.refl _ _) _) _) _) g1
       have Zr : ZC w1 (w.heap.size + 1 + 1) [.int .u32 0, .int .u32 0, .int .i32 0, .int .i32 0, .int .i32 0] := ZC.kep (zc_new' _ _ _ (by first | rfl | simp)) g1))
  have q1 : w.heap.size + 1 + 1 < w1.heap.size := Zr.lt
  generalize hW : World.alloc (World.alloc w1 _) _ = W2
  replace Zr : ZC W2 (w.heap.size + 1 + 1) [.int .u32 0, .int .u32 0, .int .i32 0, .int .i32 0, .int .i32 0] := by rw [← hW]; exact (ZC.more (ZC.more Zr _) _)
  have Zl : ZC W2 (w1.heap.size) [.int .u32 l.k, .int .i32 l.r, .int .i32 l.ax, .int .i32 l.ay, .int .i32 l.m, .int .i32 l.o, .int .i32 l.px, .int .i32 l.py, .int .i32 l.vx, .int .i32 l.vy, .int .i32 a, .int .i32 b, .int .i32 c, .int .i32 d] := by rw [← hW]; exact (ZC.more (zc_new' _ _ _ (by first | rfl | simp)) _)
  have Zh : ZC W2 (w1.heap.size + 1) [.int .u32 h.k, .int .i32 h.r, .int .i32 h.ax, .int .i32 h.ay, .int .i32 h.m, .int .i32 h.o, .int .i32 h.px, .int .i32 h.py, .int .i32 h.vx, .int .i32 h.vy, .int .i32 p, .int .i32 q, .int .i32 r, .int .i32 s] := by rw [← hW]; exact (zc_new' _ _ _ (by first | rfl | simp))
  replace gg : Kep w.heap.size w W2 := by rw [← hW]; exact (kep_more (kep_more gg _) _)
  clear hW
  have l0 : W2.cell? ⟨w1.heap.size, 0, none⟩ = some (.int .u32 l.k) := Zl.i (i := 0) rfl
  have l1 : W2.cell? ⟨w1.heap.size, 1, none⟩ = some (.int .i32 l.r) := Zl.i (i := 1) rfl
  have l2 : W2.cell? ⟨w1.heap.size, 2, none⟩ = some (.int .i32 l.ax) := Zl.i (i := 2) rfl
  have l3 : W2.cell? ⟨w1.heap.size, 3, none⟩ = some (.int .i32 l.ay) := Zl.i (i := 3) rfl
  have l4 : W2.cell? ⟨w1.heap.size, 4, none⟩ = some (.int .i32 l.m) := Zl.i (i := 4) rfl
  have l5 : W2.cell? ⟨w1.heap.size, 5, none⟩ = some (.int .i32 l.o) := Zl.i (i := 5) rfl
  have l6 : W2.cell? ⟨w1.heap.size, 6, none⟩ = some (.int .i32 l.px) := Zl.i (i := 6) rfl
  have l7 : W2.cell? ⟨w1.heap.size, 7, none⟩ = some (.int .i32 l.py) := Zl.i (i := 7) rfl
  have l8 : W2.cell? ⟨w1.heap.size, 8, none⟩ = some (.int .i32 l.vx) := Zl.i (i := 8) rfl
  have l9 : W2.cell? ⟨w1.heap.size, 9, none⟩ = some (.int .i32 l.vy) := Zl.i (i := 9) rfl
  have l10 : W2.cell? ⟨w1.heap.size, 10, none⟩ = some (.int .i32 a) := Zl.i (i := 10) rfl
  have l11 : W2.cell? ⟨w1.heap.size, 11, none⟩ = some (.int .i32 b) := Zl.i (i := 11) rfl
  have l12 : W2.cell? ⟨w1.heap.size, 12, none⟩ = some (.int .i32 c) := Zl.i (i := 12) rfl
  have l13 : W2.cell? ⟨w1.heap.size, 13, none⟩ = some (.int .i32 d) := Zl.i (i := 13) rfl
  have zl := Zl.lt
  have h0 : W2.cell? ⟨w1.heap.size + 1, 0, none⟩ = some (.int .u32 h.k) := Zh.i (i := 0) rfl
  have h1 : W2.cell? ⟨w1.heap.size + 1, 1, none⟩ = some (.int .i32 h.r) := Zh.i (i := 1) rfl
  have h2 : W2.cell? ⟨w1.heap.size + 1, 2, none⟩ = some (.int .i32 h.ax) := Zh.i (i := 2) rfl
  have h3 : W2.cell? ⟨w1.heap.size + 1, 3, none⟩ = some (.int .i32 h.ay) := Zh.i (i := 3) rfl
  have h4 : W2.cell? ⟨w1.heap.size + 1, 4, none⟩ = some (.int .i32 h.m) := Zh.i (i := 4) rfl
  have h5 : W2.cell? ⟨w1.heap.size + 1, 5, none⟩ = some (.int .i32 h.o) := Zh.i (i := 5) rfl
  have h6 : W2.cell? ⟨w1.heap.size + 1, 6, none⟩ = some (.int .i32 h.px) := Zh.i (i := 6) rfl
  have h7 : W2.cell? ⟨w1.heap.size + 1, 7, none⟩ = some (.int .i32 h.py) := Zh.i (i := 7) rfl
  have h8 : W2.cell? ⟨w1.heap.size + 1, 8, none⟩ = some (.int .i32 h.vx) := Zh.i (i := 8) rfl
  have h9 : W2.cell? ⟨w1.heap.size + 1, 9, none⟩ = some (.int .i32 h.vy) := Zh.i (i := 9) rfl
  have h10 : W2.cell? ⟨w1.heap.size + 1, 10, none⟩ = some (.int .i32 p) := Zh.i (i := 10) rfl
  have h11 : W2.cell? ⟨w1.heap.size + 1, 11, none⟩ = some (.int .i32 q) := Zh.i (i := 11) rfl
  have h12 : W2.cell? ⟨w1.heap.size + 1, 12, none⟩ = some (.int .i32 r) := Zh.i (i := 12) rfl
  have h13 : W2.cell? ⟨w1.heap.size + 1, 13, none⟩ = some (.int .i32 s) := Zh.i (i := 13) rfl
  have zh := Zh.lt
  have zr := Zr.lt
  go_wp2_with (first
    | ((with_reducible refine (C2.out _).mono ?_); rintro e w3 ⟨rfl, g3⟩
       replace Zr := Zr.kep g3
       replace Zl := Zl.kep g3
       replace Zh := Zh.kep g3
       replace gg := kep_next gg g3
       have l0 : w3.cell? ⟨w1.heap.size, 0, none⟩ = some (.int .u32 l.k) := Zl.i (i := 0) rfl
       have l1 : w3.cell? ⟨w1.heap.size, 1, none⟩ = some (.int .i32 l.r) := Zl.i (i := 1) rfl
       have l2 : w3.cell? ⟨w1.heap.size, 2, none⟩ = some (.int .i32 l.ax) := Zl.i (i := 2) rfl
       have l3 : w3.cell? ⟨w1.heap.size, 3, none⟩ = some (.int .i32 l.ay) := Zl.i (i := 3) rfl
       have l4 : w3.cell? ⟨w1.heap.size, 4, none⟩ = some (.int .i32 l.m) := Zl.i (i := 4) rfl
       have l5 : w3.cell? ⟨w1.heap.size, 5, none⟩ = some (.int .i32 l.o) := Zl.i (i := 5) rfl
       have l6 : w3.cell? ⟨w1.heap.size, 6, none⟩ = some (.int .i32 l.px) := Zl.i (i := 6) rfl
       have l7 : w3.cell? ⟨w1.heap.size, 7, none⟩ = some (.int .i32 l.py) := Zl.i (i := 7) rfl
       have l8 : w3.cell? ⟨w1.heap.size, 8, none⟩ = some (.int .i32 l.vx) := Zl.i (i := 8) rfl
       have l9 : w3.cell? ⟨w1.heap.size, 9, none⟩ = some (.int .i32 l.vy) := Zl.i (i := 9) rfl
       have l10 : w3.cell? ⟨w1.heap.size, 10, none⟩ = some (.int .i32 a) := Zl.i (i := 10) rfl
       have l11 : w3.cell? ⟨w1.heap.size, 11, none⟩ = some (.int .i32 b) := Zl.i (i := 11) rfl
       have l12 : w3.cell? ⟨w1.heap.size, 12, none⟩ = some (.int .i32 c) := Zl.i (i := 12) rfl
       have l13 : w3.cell? ⟨w1.heap.size, 13, none⟩ = some (.int .i32 d) := Zl.i (i := 13) rfl
       have zl := Zl.lt
       have h0 : w3.cell? ⟨w1.heap.size + 1, 0, none⟩ = some (.int .u32 h.k) := Zh.i (i := 0) rfl
       have h1 : w3.cell? ⟨w1.heap.size + 1, 1, none⟩ = some (.int .i32 h.r) := Zh.i (i := 1) rfl
       have h2 : w3.cell? ⟨w1.heap.size + 1, 2, none⟩ = some (.int .i32 h.ax) := Zh.i (i := 2) rfl
       have h3 : w3.cell? ⟨w1.heap.size + 1, 3, none⟩ = some (.int .i32 h.ay) := Zh.i (i := 3) rfl
       have h4 : w3.cell? ⟨w1.heap.size + 1, 4, none⟩ = some (.int .i32 h.m) := Zh.i (i := 4) rfl
       have h5 : w3.cell? ⟨w1.heap.size + 1, 5, none⟩ = some (.int .i32 h.o) := Zh.i (i := 5) rfl
       have h6 : w3.cell? ⟨w1.heap.size + 1, 6, none⟩ = some (.int .i32 h.px) := Zh.i (i := 6) rfl
       have h7 : w3.cell? ⟨w1.heap.size + 1, 7, none⟩ = some (.int .i32 h.py) := Zh.i (i := 7) rfl
       have h8 : w3.cell? ⟨w1.heap.size + 1, 8, none⟩ = some (.int .i32 h.vx) := Zh.i (i := 8) rfl
       have h9 : w3.cell? ⟨w1.heap.size + 1, 9, none⟩ = some (.int .i32 h.vy) := Zh.i (i := 9) rfl
       have h10 : w3.cell? ⟨w1.heap.size + 1, 10, none⟩ = some (.int .i32 p) := Zh.i (i := 10) rfl
       have h11 : w3.cell? ⟨w1.heap.size + 1, 11, none⟩ = some (.int .i32 q) := Zh.i (i := 11) rfl
       have h12 : w3.cell? ⟨w1.heap.size + 1, 12, none⟩ = some (.int .i32 r) := Zh.i (i := 12) rfl
       have h13 : w3.cell? ⟨w1.heap.size + 1, 13, none⟩ = some (.int .i32 s) := Zh.i (i := 13) rfl
       have zh := Zh.lt)
    | ((with_reducible refine (C3.out _).mono ?_); rintro e w4 ⟨rfl, g4⟩
       replace Zr := Zr.kep g4
       replace Zl := Zl.kep g4
       replace Zh := Zh.kep g4
       replace gg := kep_next gg g4
       have r0 : w4.cell? ⟨w.heap.size + 1 + 1, 0, none⟩ = some (.int .u32 0) := Zr.i (i := 0) rfl
       have r1 : w4.cell? ⟨w.heap.size + 1 + 1, 1, none⟩ = some (.int .u32 0) := Zr.i (i := 1) rfl
       have r2 : w4.cell? ⟨w.heap.size + 1 + 1, 2, none⟩ = some (.int .i32 0) := Zr.i (i := 2) rfl
       have r3 : w4.cell? ⟨w.heap.size + 1 + 1, 3, none⟩ = some (.int .i32 0) := Zr.i (i := 3) rfl
       have r4 : w4.cell? ⟨w.heap.size + 1 + 1, 4, none⟩ = some (.int .i32 0) := Zr.i (i := 4) rfl
       have fr0 : w4.frozen? ⟨w.heap.size + 1 + 1, 0, none⟩ = false := Zr.frz 0
       have fr1 : w4.frozen? ⟨w.heap.size + 1 + 1, 1, none⟩ = false := Zr.frz 1
       have fr2 : w4.frozen? ⟨w.heap.size + 1 + 1, 2, none⟩ = false := Zr.frz 2
       have fr3 : w4.frozen? ⟨w.heap.size + 1 + 1, 3, none⟩ = false := Zr.frz 3
       have fr4 : w4.frozen? ⟨w.heap.size + 1 + 1, 4, none⟩ = false := Zr.frz 4
       have zr := Zr.lt)
    | ((with_reducible refine (C4.out _).mono ?_); rintro e w' ⟨rfl, rfl⟩))
  have hst := Zr.set [.int .u32 0, .int .u32 0, .int .i32 0, .int .i32 0, .int .i32 0] (by simp)
  simp only [setAll, Nat.zero_add, Nat.reduceAdd] at hst
  have hst0 := hst.i (i := 0) rfl
  have hst1 := hst.i (i := 1) rfl
  have hst2 := hst.i (i := 2) rfl
  have hst3 := hst.i (i := 3) rfl
  have hst4 := hst.i (i := 4) rfl
  exact bodyPost_ret (v := .tuple #[.agg #[.int .u32 0, .int .u32 0, .int .i32 0, .int .i32 0, .int .i32 0], .bool false]) (by simp [results, Tryz.results37, go_sem, hst0, hst1, hst2, hst3, hst4]) rfl ⟨rfl, by simpa only [setAll, Nat.zero_add, Nat.reduceAdd] using kep_setAll (by omega) [.int .u32 0, .int .u32 0, .int .i32 0, .int .i32 0, .int .i32 0] 0 gg⟩
end Go.Proofs.YtangalkbjochjaaGreatDoor
end

section
/-
  Package contact: what it gives.
-/
namespace Go.Proofs.YtangalkbjochjaaGreatDoor
open Go.RowKit Go.Lib

theorem ksh_ok {x : Bd} (h : okC x) : KSh x (x.px - x.ax) (x.py - x.ay) (x.px + x.ax) (x.py + x.ay) := ksh (ken h)
theorem qod {x y : Bd} (hx : okC x) (hy : okC y) : KOd x y (lowB x y) (higB x y) ((lowB x y).px - (lowB x y).ax) ((lowB x y).py - (lowB x y).ay) ((lowB x y).px + (lowB x y).ax) ((lowB x y).py + (lowB x y).ay) ((higB x y).px - (higB x y).ax) ((higB x y).py - (higB x y).ay) ((higB x y).px + (higB x y).ax) ((higB x y).py + (higB x y).ay) := kod (x := x) (y := y) (ksh_ok (low_ok hx hy).1) (ksh_ok (low_ok hx hy).2)
theorem qdi {l h : Bd} (hl : okC l) (hh : okC h) : KDi l h (l.px - l.ax) (l.py - l.ay) (l.px + l.ax) (l.py + l.ay) (h.px - h.ax) (h.py - h.ay) (h.px + h.ax) (h.py + h.ay) (cdx l h) (cdy l h) := by
  have g := cc_good hl hh
  exact kdi (sch (x := cc l h) (cc_sg hl hh) rfl) (kdf g.a g.b (cin32 g.c) (cin32 g.d) rfl rfl)
theorem qra {l h : Bd} (hl : okC l) (hh : okC h) (a b c d p q r s : Int) : KRa l h a b c d p q r s (csm l h) := kra (okC_lim hl).1 (okC_lim hh).1 rfl
theorem qcl {l h : Bd} (hl : okC l) (hh : okC h) : KCl (cdx l h) (cdy l h) (csm l h) (tchB l h) := by
  have i := cc_ind hl hh
  have b := csm_bd hl hh
  exact kcl (lsq2 i.1 i.2 (cc_t hl hh).symm) ⟨by omega, b.2⟩ rfl
theorem qof {x y : Bd} (hx : okC x) (hy : okC y) : QOf x y (conV (lowB x y) (higB x y)) (tchB (lowB x y) (higB x y)) := by
  have k := low_ok hx hy
  have X1 := qod hx hy
  generalize lowB x y = l at *
  generalize higB x y = h at *
  obtain ⟨hl, hh⟩ := k
  have i := cc_ind hl hh
  have b := csm_bd hl hh
  have n := cln_bd hl hh
  have X4 := qcl hl hh
  cases c : tchB l h with
  | false =>
    rw [c] at X4
    have e : conV l h = ⟨0, 0, 0, 0, 0⟩ := by unfold conV; rw [c]; rfl
    rw [e]
    exact kof0 X1 (qdi hl hh) (qra hl hh _ _ _ _ _ _ _ _) X4
  | true =>
    rw [c] at X4
    have e : conV l h = conC l h := by unfold conV; rw [c]; rfl
    have q := (tch_iff hl hh).1 c
    rw [e]
    exact kof1 X1 (qdi hl hh) (qra hl hh _ _ _ _ _ _ _ _) X4 (kun i.1 i.2 (cln_is hl hh)) (kln i.1 i.2 (cln_is hl hh)) ⟨by omega, b.2⟩ ⟨n.1, by omega⟩ rfl
end Go.Proofs.YtangalkbjochjaaGreatDoor
end
