/-
  Package cell: the fixed examples of its laws.
-/
import Derived.Test.YtnbncdgadahhbaaDoorCellCon
import Derived.Deep.DeepCutAuto
namespace Go.Proofs.YtnbncdgadahhbaaDoor
open Go.RowKit Go.Lib

theorem cell_four (W : World) (t : TypeId) (b : Nat) (hb : b = W.heap.size) : Sq cv 2 (W.alloc (.cells #[.int .i32 (-1), .int .i32 0, .int .i32 0, .int .i32 0, .int .i32 (-1), .int .i32 1, .int .i32 0, .int .i32 1] t)) (.slice (some ⟨b, 0, none⟩) 4 4) [(-1, 0), (0, 0), (-1, 1), (0, 1)] := sq_new cv_len W _ _ rfl t b hb 4 4 rfl
set_option maxRecDepth 100000 in
set_option maxHeartbeats 4000000 in
theorem cell_awake (O : COps) : CAwake := fun w F0 => by
  have A1 : Hid (CeA (-1) 0 0 4194304 [(-1, 0), (0, 0), (-1, 1), (0, 1)]) := Lib.hid (by
    have := O.all (-1) 0 0 4194304 2 2 ⟨by omega, by omega⟩ ⟨by omega, by omega⟩ ⟨by omega, by omega⟩ ⟨by omega, by omega⟩ (by decide) (by decide) (by decide) (by decide)
    rw [show allC (colN (-1)) (colN 0) 2 2 = [(-1, 0), (0, 0), (-1, 1), (0, 1)] from by decide] at this
    exact this)
  have S1 : Hid (CeS (-1) 0 0 4194304 (-1) 0 0 1 true) := Lib.hid (O.span (-1) 0 0 4194304 ⟨by omega, by omega⟩ ⟨by omega, by omega⟩ ⟨by omega, by omega⟩ ⟨by omega, by omega⟩ (by decide))
  have S2 : Hid (CeS 1 0 0 0 0 0 0 0 false) := Lib.hid (O.spanNo 1 0 0 0 (by decide))
  have E1 : Hid (CeO (-1) 4194304 (-1) 1) := Lib.hid (O.of (-1) 4194304 ⟨by omega, by omega⟩ ⟨by omega, by omega⟩)
  have B1 : Hid (CeB 0 0 0) := Lib.hid (by have := O.bucket 0 0 ⟨by omega, by omega⟩ ⟨by omega, by omega⟩; rw [show bktN 0 0 = 0 from by decide] at this; exact this)
  have B2 : Hid (CeB 1 0 93) := Lib.hid (by have := O.bucket 1 0 ⟨by omega, by omega⟩ ⟨by omega, by omega⟩; rw [show bktN 1 0 = 93 from by decide] at this; exact this)
  have SA := Lib.hid (fun va vb => sam va vb [(-1, 0), (0, 0), (-1, 1), (0, 1)] (by decide))
  have v1 := fun w => cell_eql (-1) 1 w
  have v2 := fun w => cell_eql (-1) 0 w
  have v3 := fun w => cell_eql 0 1 w
  go_enter Tryd.func8, Tryd.ntmps8
  go_wp2_with (first
    | ((with_reducible refine (A1.out _).mono ?_); rintro e w1 ⟨ls, rfl, qa, g1⟩
       have a0 := Kep.all g1 (a := ⟨w.heap.size, 0, none⟩) (v := .int .i32 (-1)) (by (repeat (first | rw [World.cell?_drew] | rw [World.cell?_alloc_past _ _ _ (by first | (simp; done) | (simp; omega))])); rw [World.cell?_alloc_at _ _ _ _ (by simp)]; rfl)
       have a1 := Kep.all g1 (a := ⟨w.heap.size, 1, none⟩) (v := .int .i32 0) (by (repeat (first | rw [World.cell?_drew] | rw [World.cell?_alloc_past _ _ _ (by first | (simp; done) | (simp; omega))])); rw [World.cell?_alloc_at _ _ _ _ (by simp)]; rfl)
       have a2 := Kep.all g1 (a := ⟨w.heap.size, 2, none⟩) (v := .int .i32 0) (by (repeat (first | rw [World.cell?_drew] | rw [World.cell?_alloc_past _ _ _ (by first | (simp; done) | (simp; omega))])); rw [World.cell?_alloc_at _ _ _ _ (by simp)]; rfl)
       have a3 := Kep.all g1 (a := ⟨w.heap.size, 3, none⟩) (v := .int .i32 4194304) (by (repeat (first | rw [World.cell?_drew] | rw [World.cell?_alloc_past _ _ _ (by first | (simp; done) | (simp; omega))])); rw [World.cell?_alloc_at _ _ _ _ (by simp)]; rfl)
       have gg := kep_next (kep_more (Kep.refl _ _) _) g1
       have za_w1 : w.heap.size < w1.heap.size := World.block_lt_of_cell? _ _ a0)
    | ((with_reducible refine (S1.out _).mono ?_); rintro e w2 ⟨rfl, g2⟩
       replace qa := qa.kep (kep_next (Kep.refl _ _) g2)
       replace a0 := Kep.all g2 (a := ⟨w.heap.size, 0, none⟩) (v := .int .i32 (-1)) a0
       replace a1 := Kep.all g2 (a := ⟨w.heap.size, 1, none⟩) (v := .int .i32 0) a1
       replace a2 := Kep.all g2 (a := ⟨w.heap.size, 2, none⟩) (v := .int .i32 0) a2
       replace a3 := Kep.all g2 (a := ⟨w.heap.size, 3, none⟩) (v := .int .i32 4194304) a3
       replace gg := kep_next gg g2
       have za_w2 : w.heap.size < w2.heap.size := World.block_lt_of_cell? _ _ a0)
    | ((with_reducible refine (S2.out _).mono ?_); rintro e w3 ⟨rfl, g3⟩
       replace qa := qa.kep (kep_next (kep_more (kep_more (Kep.refl _ _) _) _) g3)
       replace a0 := Kep.all g3 (a := ⟨w.heap.size, 0, none⟩) (v := .int .i32 (-1)) (Kep.all (kep_more (kep_more (Kep.refl _ _) _) _) a0)
       replace a1 := Kep.all g3 (a := ⟨w.heap.size, 1, none⟩) (v := .int .i32 0) (Kep.all (kep_more (kep_more (Kep.refl _ _) _) _) a1)
       replace a2 := Kep.all g3 (a := ⟨w.heap.size, 2, none⟩) (v := .int .i32 0) (Kep.all (kep_more (kep_more (Kep.refl _ _) _) _) a2)
       replace a3 := Kep.all g3 (a := ⟨w.heap.size, 3, none⟩) (v := .int .i32 4194304) (Kep.all (kep_more (kep_more (Kep.refl _ _) _) _) a3)
       have l0 := Kep.all g3 (a := ⟨w2.heap.size, 0, none⟩) (v := .int .i32 (-1)) (by (repeat (first | rw [World.cell?_drew] | rw [World.cell?_alloc_past _ _ _ (by first | (simp; done) | (simp; omega))])); rw [World.cell?_alloc_at _ _ _ _ (by simp)]; rfl)
       have l1 := Kep.all g3 (a := ⟨w2.heap.size, 1, none⟩) (v := .int .i32 0) (by (repeat (first | rw [World.cell?_drew] | rw [World.cell?_alloc_past _ _ _ (by first | (simp; done) | (simp; omega))])); rw [World.cell?_alloc_at _ _ _ _ (by simp)]; rfl)
       have h0 := Kep.all g3 (a := ⟨w2.heap.size + 1, 0, none⟩) (v := .int .i32 0) (by (repeat (first | rw [World.cell?_drew] | rw [World.cell?_alloc_past _ _ _ (by first | (simp; done) | (simp; omega))])); rw [World.cell?_alloc_at _ _ _ _ (by simp)]; rfl)
       have h1 := Kep.all g3 (a := ⟨w2.heap.size + 1, 1, none⟩) (v := .int .i32 1) (by (repeat (first | rw [World.cell?_drew] | rw [World.cell?_alloc_past _ _ _ (by first | (simp; done) | (simp; omega))])); rw [World.cell?_alloc_at _ _ _ _ (by simp)]; rfl)
       replace gg := kep_next (kep_more (kep_more gg _) _) g3
       have za_w3 : w.heap.size < w3.heap.size := World.block_lt_of_cell? _ _ a0
       have zl_w3 : w2.heap.size < w3.heap.size := World.block_lt_of_cell? _ _ l0
       have zh_w3 : w2.heap.size + 1 < w3.heap.size := World.block_lt_of_cell? _ _ h0)
    | ((with_reducible refine (E1.out _).mono ?_); rintro e w4 ⟨rfl, g4⟩
       replace qa := qa.kep (kep_next (kep_more (kep_more (Kep.refl _ _) _) _) g4)
       replace a0 := Kep.all g4 (a := ⟨w.heap.size, 0, none⟩) (v := .int .i32 (-1)) (Kep.all (kep_more (kep_more (Kep.refl _ _) _) _) a0)
       replace a1 := Kep.all g4 (a := ⟨w.heap.size, 1, none⟩) (v := .int .i32 0) (Kep.all (kep_more (kep_more (Kep.refl _ _) _) _) a1)
       replace a2 := Kep.all g4 (a := ⟨w.heap.size, 2, none⟩) (v := .int .i32 0) (Kep.all (kep_more (kep_more (Kep.refl _ _) _) _) a2)
       replace a3 := Kep.all g4 (a := ⟨w.heap.size, 3, none⟩) (v := .int .i32 4194304) (Kep.all (kep_more (kep_more (Kep.refl _ _) _) _) a3)
       replace l0 := Kep.all g4 (a := ⟨w2.heap.size, 0, none⟩) (v := .int .i32 (-1)) (Kep.all (kep_more (kep_more (Kep.refl _ _) _) _) l0)
       replace l1 := Kep.all g4 (a := ⟨w2.heap.size, 1, none⟩) (v := .int .i32 0) (Kep.all (kep_more (kep_more (Kep.refl _ _) _) _) l1)
       replace h0 := Kep.all g4 (a := ⟨w2.heap.size + 1, 0, none⟩) (v := .int .i32 0) (Kep.all (kep_more (kep_more (Kep.refl _ _) _) _) h0)
       replace h1 := Kep.all g4 (a := ⟨w2.heap.size + 1, 1, none⟩) (v := .int .i32 1) (Kep.all (kep_more (kep_more (Kep.refl _ _) _) _) h1)
       replace gg := kep_next (kep_more (kep_more gg _) _) g4
       have za_w4 : w.heap.size < w4.heap.size := World.block_lt_of_cell? _ _ a0
       have zl_w4 : w2.heap.size < w4.heap.size := World.block_lt_of_cell? _ _ l0
       have zh_w4 : w2.heap.size + 1 < w4.heap.size := World.block_lt_of_cell? _ _ h0)
    | ((with_reducible refine (SA.out _ _ _ (qa.kep (kep_more (Kep.refl _ _) _)) (cell_four _ _ _ (by first | rfl | simp))).mono ?_); rintro e w5 ⟨rfl, g5⟩
       replace a0 := Kep.all g5 (a := ⟨w.heap.size, 0, none⟩) (v := .int .i32 (-1)) (Kep.all (kep_more (Kep.refl _ _) _) a0)
       replace a1 := Kep.all g5 (a := ⟨w.heap.size, 1, none⟩) (v := .int .i32 0) (Kep.all (kep_more (Kep.refl _ _) _) a1)
       replace a2 := Kep.all g5 (a := ⟨w.heap.size, 2, none⟩) (v := .int .i32 0) (Kep.all (kep_more (Kep.refl _ _) _) a2)
       replace a3 := Kep.all g5 (a := ⟨w.heap.size, 3, none⟩) (v := .int .i32 4194304) (Kep.all (kep_more (Kep.refl _ _) _) a3)
       replace l0 := Kep.all g5 (a := ⟨w2.heap.size, 0, none⟩) (v := .int .i32 (-1)) (Kep.all (kep_more (Kep.refl _ _) _) l0)
       replace l1 := Kep.all g5 (a := ⟨w2.heap.size, 1, none⟩) (v := .int .i32 0) (Kep.all (kep_more (Kep.refl _ _) _) l1)
       replace h0 := Kep.all g5 (a := ⟨w2.heap.size + 1, 0, none⟩) (v := .int .i32 0) (Kep.all (kep_more (Kep.refl _ _) _) h0)
       replace h1 := Kep.all g5 (a := ⟨w2.heap.size + 1, 1, none⟩) (v := .int .i32 1) (Kep.all (kep_more (Kep.refl _ _) _) h1)
       replace gg := kep_next (kep_more gg _) g5
       have za_w5 : w.heap.size < w5.heap.size := World.block_lt_of_cell? _ _ a0
       have zl_w5 : w2.heap.size < w5.heap.size := World.block_lt_of_cell? _ _ l0
       have zh_w5 : w2.heap.size + 1 < w5.heap.size := World.block_lt_of_cell? _ _ h0)
    | ((with_reducible refine (B1.out _ (F0.kep (by (repeat (first | with_reducible assumption | refine kep_more ?_ _ | refine kep_drew ?_ | exact Kep.refl _ _))))).mono ?_); rintro e w6 ⟨rfl, g6⟩
       replace a0 := Kep.all g6 (a := ⟨w.heap.size, 0, none⟩) (v := .int .i32 (-1)) a0
       replace a1 := Kep.all g6 (a := ⟨w.heap.size, 1, none⟩) (v := .int .i32 0) a1
       replace a2 := Kep.all g6 (a := ⟨w.heap.size, 2, none⟩) (v := .int .i32 0) a2
       replace a3 := Kep.all g6 (a := ⟨w.heap.size, 3, none⟩) (v := .int .i32 4194304) a3
       replace l0 := Kep.all g6 (a := ⟨w2.heap.size, 0, none⟩) (v := .int .i32 (-1)) l0
       replace l1 := Kep.all g6 (a := ⟨w2.heap.size, 1, none⟩) (v := .int .i32 0) l1
       replace h0 := Kep.all g6 (a := ⟨w2.heap.size + 1, 0, none⟩) (v := .int .i32 0) h0
       replace h1 := Kep.all g6 (a := ⟨w2.heap.size + 1, 1, none⟩) (v := .int .i32 1) h1
       replace gg := kep_next gg g6
       have za_w6 : w.heap.size < w6.heap.size := World.block_lt_of_cell? _ _ a0
       have zl_w6 : w2.heap.size < w6.heap.size := World.block_lt_of_cell? _ _ l0
       have zh_w6 : w2.heap.size + 1 < w6.heap.size := World.block_lt_of_cell? _ _ h0)
    | ((with_reducible refine (B2.out _ (F0.kep (by (repeat (first | with_reducible assumption | refine kep_more ?_ _ | refine kep_drew ?_ | exact Kep.refl _ _))))).mono ?_); rintro e w7 ⟨rfl, g7⟩
       replace a0 := Kep.all g7 (a := ⟨w.heap.size, 0, none⟩) (v := .int .i32 (-1)) a0
       replace a1 := Kep.all g7 (a := ⟨w.heap.size, 1, none⟩) (v := .int .i32 0) a1
       replace a2 := Kep.all g7 (a := ⟨w.heap.size, 2, none⟩) (v := .int .i32 0) a2
       replace a3 := Kep.all g7 (a := ⟨w.heap.size, 3, none⟩) (v := .int .i32 4194304) a3
       replace l0 := Kep.all g7 (a := ⟨w2.heap.size, 0, none⟩) (v := .int .i32 (-1)) l0
       replace l1 := Kep.all g7 (a := ⟨w2.heap.size, 1, none⟩) (v := .int .i32 0) l1
       replace h0 := Kep.all g7 (a := ⟨w2.heap.size + 1, 0, none⟩) (v := .int .i32 0) h0
       replace h1 := Kep.all g7 (a := ⟨w2.heap.size + 1, 1, none⟩) (v := .int .i32 1) h1
       replace gg := kep_next gg g7
       have za_w7 : w.heap.size < w7.heap.size := World.block_lt_of_cell? _ _ a0
       have zl_w7 : w2.heap.size < w7.heap.size := World.block_lt_of_cell? _ _ l0
       have zh_w7 : w2.heap.size + 1 < w7.heap.size := World.block_lt_of_cell? _ _ h0))
  go_ret
  exact ⟨rfl, gg⟩
end Go.Proofs.YtnbncdgadahhbaaDoor
