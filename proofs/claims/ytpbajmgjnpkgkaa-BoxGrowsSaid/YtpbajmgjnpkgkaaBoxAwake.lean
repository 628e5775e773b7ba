/-
  Package box: the fixed examples of its laws.
-/
import Derived.Test.YtpbajmgjnpkgkaaBoxLawS
import Derived.Deep.DeepCutAuto
namespace Go.Proofs.Ytpbajmgjnpkgkaa
open Go.RowKit Go.Lib

set_option maxRecDepth 100000 in
set_option maxHeartbeats 4000000 in
theorem box_awake (O : BOps) : BAwake := fun w => by
  have F1 := Lib.hid (O.of 0 4096 0 0 0 0 0 0 0 0 4096 4096 (by omega) (by omega) (by omega) (by omega) (by omega) (by omega) (by omega))
  rw [show (0 : Int) - 4096 = -4096 from rfl, show (0 : Int) + 4096 = 4096 from rfl] at F1
  have K1 : Hid (BCo (-4096) (-4096) 4096 4096 4096 (-4096) true) := Lib.hid (O.contains (-4096) (-4096) 4096 4096 4096 (-4096))
  have K2 : Hid (BCo (-4096) (-4096) 4096 4096 4097 0 false) := Lib.hid (O.contains (-4096) (-4096) 4096 4096 4097 0)
  have O1 : Hid (BOv (-4096) (-4096) 4096 4096 4096 4096 5000 5000 true) := Lib.hid (O.overlap (-4096) (-4096) 4096 4096 4096 4096 5000 5000)
  have M1 : Hid (BMe (-4096) (-4096) 4096 4096 4096 4096 5000 5000 4096 4096 4096 4096) := Lib.hid (O.meet _ _ _ _ _ _ _ _ _ _ _ _ (by decide))
  have U1 : Hid (BUn (-4096) (-4096) 4096 4096 4096 4096 5000 5000 (-4096) (-4096) 5000 5000) := Lib.hid (O.union _ _ _ _ _ _ _ _ _ _ _ _ (by decide))
  have E1 : Hid (BEm 1 0 0 0 true) := Lib.hid (O.empty 1 0 0 0)
  have E2 : Hid (BEm 0 0 0 0 false) := Lib.hid (O.empty 0 0 0 0)
  have v1 := fun w => box_eql (-4096) (-4096) 4096 4096 w
  have v2 := fun w => box_eql 4096 4096 4096 4096 w
  have v3 := fun w => box_eql (-4096) (-4096) 5000 5000 w
  go_enter Try.func8, Try.ntmps8
  go_wp2_with (first
    | ((with_reducible refine (F1.out _).mono ?_); rintro e w1 ⟨rfl, g1⟩
       have gg := g1)
    | ((with_reducible refine (K1.out _).mono ?_); rintro e w2 ⟨rfl, g2⟩
       have u0 := kept_cell g2 (b := w1.heap.size) (o := 0) (v := .int .i32 (-4096)) (by (repeat (first | rw [World.cell?_drew] | rw [World.cell?_alloc_past _ _ _ (by first | (simp; done) | (simp; omega))])); rw [World.cell?_alloc_at _ _ _ _ (by simp)]; rfl)
       have u1 := kept_cell g2 (b := w1.heap.size) (o := 1) (v := .int .i32 (-4096)) (by (repeat (first | rw [World.cell?_drew] | rw [World.cell?_alloc_past _ _ _ (by first | (simp; done) | (simp; omega))])); rw [World.cell?_alloc_at _ _ _ _ (by simp)]; rfl)
       have u2 := kept_cell g2 (b := w1.heap.size) (o := 2) (v := .int .i32 4096) (by (repeat (first | rw [World.cell?_drew] | rw [World.cell?_alloc_past _ _ _ (by first | (simp; done) | (simp; omega))])); rw [World.cell?_alloc_at _ _ _ _ (by simp)]; rfl)
       have u3 := kept_cell g2 (b := w1.heap.size) (o := 3) (v := .int .i32 4096) (by (repeat (first | rw [World.cell?_drew] | rw [World.cell?_alloc_past _ _ _ (by first | (simp; done) | (simp; omega))])); rw [World.cell?_alloc_at _ _ _ _ (by simp)]; rfl)
       have v0 := kept_cell g2 (b := w1.heap.size + 1) (o := 0) (v := .int .i32 4096) (by (repeat (first | rw [World.cell?_drew] | rw [World.cell?_alloc_past _ _ _ (by first | (simp; done) | (simp; omega))])); rw [World.cell?_alloc_at _ _ _ _ (by simp)]; rfl)
       have v1 := kept_cell g2 (b := w1.heap.size + 1) (o := 1) (v := .int .i32 4096) (by (repeat (first | rw [World.cell?_drew] | rw [World.cell?_alloc_past _ _ _ (by first | (simp; done) | (simp; omega))])); rw [World.cell?_alloc_at _ _ _ _ (by simp)]; rfl)
       have v2 := kept_cell g2 (b := w1.heap.size + 1) (o := 2) (v := .int .i32 5000) (by (repeat (first | rw [World.cell?_drew] | rw [World.cell?_alloc_past _ _ _ (by first | (simp; done) | (simp; omega))])); rw [World.cell?_alloc_at _ _ _ _ (by simp)]; rfl)
       have v3 := kept_cell g2 (b := w1.heap.size + 1) (o := 3) (v := .int .i32 5000) (by (repeat (first | rw [World.cell?_drew] | rw [World.cell?_alloc_past _ _ _ (by first | (simp; done) | (simp; omega))])); rw [World.cell?_alloc_at _ _ _ _ (by simp)]; rfl)
       replace gg := grown_trans ((gg.alloc _ _).alloc _ _) g2
       have zu_w2 : w1.heap.size < w2.heap.size := World.block_lt_of_cell? _ _ u0
       have zv_w2 : w1.heap.size + 1 < w2.heap.size := World.block_lt_of_cell? _ _ v0)
    | ((with_reducible refine (K2.out _).mono ?_); rintro e w3 ⟨rfl, g3⟩
       replace u0 := kept_cell g3 (b := w1.heap.size) (o := 0) (v := .int .i32 (-4096)) u0
       replace u1 := kept_cell g3 (b := w1.heap.size) (o := 1) (v := .int .i32 (-4096)) u1
       replace u2 := kept_cell g3 (b := w1.heap.size) (o := 2) (v := .int .i32 4096) u2
       replace u3 := kept_cell g3 (b := w1.heap.size) (o := 3) (v := .int .i32 4096) u3
       replace v0 := kept_cell g3 (b := w1.heap.size + 1) (o := 0) (v := .int .i32 4096) v0
       replace v1 := kept_cell g3 (b := w1.heap.size + 1) (o := 1) (v := .int .i32 4096) v1
       replace v2 := kept_cell g3 (b := w1.heap.size + 1) (o := 2) (v := .int .i32 5000) v2
       replace v3 := kept_cell g3 (b := w1.heap.size + 1) (o := 3) (v := .int .i32 5000) v3
       replace gg := grown_trans gg g3
       have zu_w3 : w1.heap.size < w3.heap.size := World.block_lt_of_cell? _ _ u0
       have zv_w3 : w1.heap.size + 1 < w3.heap.size := World.block_lt_of_cell? _ _ v0)
    | ((with_reducible refine (O1.out _).mono ?_); rintro e w4 ⟨rfl, g4⟩
       replace u0 := kept_cell g4 (b := w1.heap.size) (o := 0) (v := .int .i32 (-4096)) u0
       replace u1 := kept_cell g4 (b := w1.heap.size) (o := 1) (v := .int .i32 (-4096)) u1
       replace u2 := kept_cell g4 (b := w1.heap.size) (o := 2) (v := .int .i32 4096) u2
       replace u3 := kept_cell g4 (b := w1.heap.size) (o := 3) (v := .int .i32 4096) u3
       replace v0 := kept_cell g4 (b := w1.heap.size + 1) (o := 0) (v := .int .i32 4096) v0
       replace v1 := kept_cell g4 (b := w1.heap.size + 1) (o := 1) (v := .int .i32 4096) v1
       replace v2 := kept_cell g4 (b := w1.heap.size + 1) (o := 2) (v := .int .i32 5000) v2
       replace v3 := kept_cell g4 (b := w1.heap.size + 1) (o := 3) (v := .int .i32 5000) v3
       replace gg := grown_trans gg g4
       have zu_w4 : w1.heap.size < w4.heap.size := World.block_lt_of_cell? _ _ u0
       have zv_w4 : w1.heap.size + 1 < w4.heap.size := World.block_lt_of_cell? _ _ v0)
    | ((with_reducible refine (M1.out _).mono ?_); rintro e w5 ⟨rfl, g5⟩
       replace u0 := kept_cell g5 (b := w1.heap.size) (o := 0) (v := .int .i32 (-4096)) u0
       replace u1 := kept_cell g5 (b := w1.heap.size) (o := 1) (v := .int .i32 (-4096)) u1
       replace u2 := kept_cell g5 (b := w1.heap.size) (o := 2) (v := .int .i32 4096) u2
       replace u3 := kept_cell g5 (b := w1.heap.size) (o := 3) (v := .int .i32 4096) u3
       replace v0 := kept_cell g5 (b := w1.heap.size + 1) (o := 0) (v := .int .i32 4096) v0
       replace v1 := kept_cell g5 (b := w1.heap.size + 1) (o := 1) (v := .int .i32 4096) v1
       replace v2 := kept_cell g5 (b := w1.heap.size + 1) (o := 2) (v := .int .i32 5000) v2
       replace v3 := kept_cell g5 (b := w1.heap.size + 1) (o := 3) (v := .int .i32 5000) v3
       replace gg := grown_trans gg g5
       have zu_w5 : w1.heap.size < w5.heap.size := World.block_lt_of_cell? _ _ u0
       have zv_w5 : w1.heap.size + 1 < w5.heap.size := World.block_lt_of_cell? _ _ v0)
    | ((with_reducible refine (U1.out _).mono ?_); rintro e w6 ⟨rfl, g6⟩
       replace u0 := kept_cell g6 (b := w1.heap.size) (o := 0) (v := .int .i32 (-4096)) u0
       replace u1 := kept_cell g6 (b := w1.heap.size) (o := 1) (v := .int .i32 (-4096)) u1
       replace u2 := kept_cell g6 (b := w1.heap.size) (o := 2) (v := .int .i32 4096) u2
       replace u3 := kept_cell g6 (b := w1.heap.size) (o := 3) (v := .int .i32 4096) u3
       replace v0 := kept_cell g6 (b := w1.heap.size + 1) (o := 0) (v := .int .i32 4096) v0
       replace v1 := kept_cell g6 (b := w1.heap.size + 1) (o := 1) (v := .int .i32 4096) v1
       replace v2 := kept_cell g6 (b := w1.heap.size + 1) (o := 2) (v := .int .i32 5000) v2
       replace v3 := kept_cell g6 (b := w1.heap.size + 1) (o := 3) (v := .int .i32 5000) v3
       replace gg := grown_trans gg g6
       have zu_w6 : w1.heap.size < w6.heap.size := World.block_lt_of_cell? _ _ u0
       have zv_w6 : w1.heap.size + 1 < w6.heap.size := World.block_lt_of_cell? _ _ v0)
    | ((with_reducible refine (E1.out _).mono ?_); rintro e w7 ⟨rfl, g7⟩
       replace u0 := kept_cell g7 (b := w1.heap.size) (o := 0) (v := .int .i32 (-4096)) u0
       replace u1 := kept_cell g7 (b := w1.heap.size) (o := 1) (v := .int .i32 (-4096)) u1
       replace u2 := kept_cell g7 (b := w1.heap.size) (o := 2) (v := .int .i32 4096) u2
       replace u3 := kept_cell g7 (b := w1.heap.size) (o := 3) (v := .int .i32 4096) u3
       replace v0 := kept_cell g7 (b := w1.heap.size + 1) (o := 0) (v := .int .i32 4096) v0
       replace v1 := kept_cell g7 (b := w1.heap.size + 1) (o := 1) (v := .int .i32 4096) v1
       replace v2 := kept_cell g7 (b := w1.heap.size + 1) (o := 2) (v := .int .i32 5000) v2
       replace v3 := kept_cell g7 (b := w1.heap.size + 1) (o := 3) (v := .int .i32 5000) v3
       replace gg := grown_trans gg g7
       have zu_w7 : w1.heap.size < w7.heap.size := World.block_lt_of_cell? _ _ u0
       have zv_w7 : w1.heap.size + 1 < w7.heap.size := World.block_lt_of_cell? _ _ v0)
    | ((with_reducible refine (E2.out _).mono ?_); rintro e w8 ⟨rfl, g8⟩
       replace gg := grown_trans gg g8))
  go_ret
  exact ⟨rfl, gg⟩
end Go.Proofs.Ytpbajmgjnpkgkaa
