/-
  Package cell: the law CellNeighbours.
-/
import Derived.Test.YtnbncdgadahhbaaDoorCellCon
import Derived.Deep.DeepCutAuto
namespace Go.Proofs.YtnbncdgadahhbaaDoor
open Go.RowKit Go.Lib

set_option maxRecDepth 100000 in
set_option maxHeartbeats 4000000 in
/-- The law CellNeighbours. -/
theorem cnl_all (AW : CAwake) (O : COps) (x y dx dy : Int) (hx : In3 x) (hy : In3 y) (w : World) (F0 : Fac w) : Calls Tryd.prog 7 #[.agg #[.int .i32 x, .int .i32 y], .int .i32 dx, .int .i32 dy] w fun e w' => e = .returned (.bool true) ∧ Kep w.heap.size w w' := by
  have AWH := Lib.hid AW
  by_cases c0 : dx < 0
  · go_enter Tryd.func7, Tryd.ntmps7
    go_wp2_with (first
      | ((with_reducible refine (AWH.out _ (F0.kep (by (repeat (first | with_reducible assumption | refine kep_more ?_ _ | refine kep_drew ?_ | exact Kep.refl _ _))))).mono ?_); rintro e w1 ⟨rfl, g1⟩
         first
           | (replace gg := kep_next gg g1)
           | (have n0 := Kep.all g1 (a := ⟨w.heap.size, 0, none⟩) (v := .int .i32 x) (by (repeat (first | rw [World.cell?_drew] | rw [World.cell?_alloc_past _ _ _ (by first | (simp; done) | (simp; omega))])); rw [World.cell?_alloc_at _ _ _ _ (by simp)]; rfl)
              have n1 := Kep.all g1 (a := ⟨w.heap.size, 1, none⟩) (v := .int .i32 y) (by (repeat (first | rw [World.cell?_drew] | rw [World.cell?_alloc_past _ _ _ (by first | (simp; done) | (simp; omega))])); rw [World.cell?_alloc_at _ _ _ _ (by simp)]; rfl)
              have gg := kep_next (kep_more (Kep.refl _ _) _) g1)))
    go_ret
    exact ⟨rfl, gg⟩
  by_cases c1 : 4194304 < dx
  · go_enter Tryd.func7, Tryd.ntmps7
    go_wp2_with (first
      | ((with_reducible refine (AWH.out _ (F0.kep (by (repeat (first | with_reducible assumption | refine kep_more ?_ _ | refine kep_drew ?_ | exact Kep.refl _ _))))).mono ?_); rintro e w1 ⟨rfl, g1⟩
         first
           | (replace gg := kep_next gg g1)
           | (have n0 := Kep.all g1 (a := ⟨w.heap.size, 0, none⟩) (v := .int .i32 x) (by (repeat (first | rw [World.cell?_drew] | rw [World.cell?_alloc_past _ _ _ (by first | (simp; done) | (simp; omega))])); rw [World.cell?_alloc_at _ _ _ _ (by simp)]; rfl)
              have n1 := Kep.all g1 (a := ⟨w.heap.size, 1, none⟩) (v := .int .i32 y) (by (repeat (first | rw [World.cell?_drew] | rw [World.cell?_alloc_past _ _ _ (by first | (simp; done) | (simp; omega))])); rw [World.cell?_alloc_at _ _ _ _ (by simp)]; rfl)
              have gg := kep_next (kep_more (Kep.refl _ _) _) g1)))
    go_ret
    exact ⟨rfl, gg⟩
  by_cases c2 : dy < 0
  · go_enter Tryd.func7, Tryd.ntmps7
    go_wp2_with (first
      | ((with_reducible refine (AWH.out _ (F0.kep (by (repeat (first | with_reducible assumption | refine kep_more ?_ _ | refine kep_drew ?_ | exact Kep.refl _ _))))).mono ?_); rintro e w1 ⟨rfl, g1⟩
         first
           | (replace gg := kep_next gg g1)
           | (have n0 := Kep.all g1 (a := ⟨w.heap.size, 0, none⟩) (v := .int .i32 x) (by (repeat (first | rw [World.cell?_drew] | rw [World.cell?_alloc_past _ _ _ (by first | (simp; done) | (simp; omega))])); rw [World.cell?_alloc_at _ _ _ _ (by simp)]; rfl)
              have n1 := Kep.all g1 (a := ⟨w.heap.size, 1, none⟩) (v := .int .i32 y) (by (repeat (first | rw [World.cell?_drew] | rw [World.cell?_alloc_past _ _ _ (by first | (simp; done) | (simp; omega))])); rw [World.cell?_alloc_at _ _ _ _ (by simp)]; rfl)
              have gg := kep_next (kep_more (Kep.refl _ _) _) g1)))
    go_ret
    exact ⟨rfl, gg⟩
  by_cases c3 : 4194304 < dy
  · go_enter Tryd.func7, Tryd.ntmps7
    go_wp2_with (first
      | ((with_reducible refine (AWH.out _ (F0.kep (by (repeat (first | with_reducible assumption | refine kep_more ?_ _ | refine kep_drew ?_ | exact Kep.refl _ _))))).mono ?_); rintro e w1 ⟨rfl, g1⟩
         first
           | (replace gg := kep_next gg g1)
           | (have n0 := Kep.all g1 (a := ⟨w.heap.size, 0, none⟩) (v := .int .i32 x) (by (repeat (first | rw [World.cell?_drew] | rw [World.cell?_alloc_past _ _ _ (by first | (simp; done) | (simp; omega))])); rw [World.cell?_alloc_at _ _ _ _ (by simp)]; rfl)
              have n1 := Kep.all g1 (a := ⟨w.heap.size, 1, none⟩) (v := .int .i32 y) (by (repeat (first | rw [World.cell?_drew] | rw [World.cell?_alloc_past _ _ _ (by first | (simp; done) | (simp; omega))])); rw [World.cell?_alloc_at _ _ _ _ (by simp)]; rfl)
              have gg := kep_next (kep_more (Kep.refl _ _) _) g1)))
    go_ret
    exact ⟨rfl, gg⟩
  by_cases c4 : 2143289343 < x
  · go_enter Tryd.func7, Tryd.ntmps7
    go_wp2_with (first
      | ((with_reducible refine (AWH.out _ (F0.kep (by (repeat (first | with_reducible assumption | refine kep_more ?_ _ | refine kep_drew ?_ | exact Kep.refl _ _))))).mono ?_); rintro e w1 ⟨rfl, g1⟩
         first
           | (replace gg := kep_next gg g1)
           | (have n0 := Kep.all g1 (a := ⟨w.heap.size, 0, none⟩) (v := .int .i32 x) (by (repeat (first | rw [World.cell?_drew] | rw [World.cell?_alloc_past _ _ _ (by first | (simp; done) | (simp; omega))])); rw [World.cell?_alloc_at _ _ _ _ (by simp)]; rfl)
              have n1 := Kep.all g1 (a := ⟨w.heap.size, 1, none⟩) (v := .int .i32 y) (by (repeat (first | rw [World.cell?_drew] | rw [World.cell?_alloc_past _ _ _ (by first | (simp; done) | (simp; omega))])); rw [World.cell?_alloc_at _ _ _ _ (by simp)]; rfl)
              have gg := kep_next (kep_more (Kep.refl _ _) _) g1)))
    go_ret
    exact ⟨rfl, gg⟩
  by_cases c5 : 2143289343 < y
  · go_enter Tryd.func7, Tryd.ntmps7
    go_wp2_with (first
      | ((with_reducible refine (AWH.out _ (F0.kep (by (repeat (first | with_reducible assumption | refine kep_more ?_ _ | refine kep_drew ?_ | exact Kep.refl _ _))))).mono ?_); rintro e w1 ⟨rfl, g1⟩
         first
           | (replace gg := kep_next gg g1)
           | (have n0 := Kep.all g1 (a := ⟨w.heap.size, 0, none⟩) (v := .int .i32 x) (by (repeat (first | rw [World.cell?_drew] | rw [World.cell?_alloc_past _ _ _ (by first | (simp; done) | (simp; omega))])); rw [World.cell?_alloc_at _ _ _ _ (by simp)]; rfl)
              have n1 := Kep.all g1 (a := ⟨w.heap.size, 1, none⟩) (v := .int .i32 y) (by (repeat (first | rw [World.cell?_drew] | rw [World.cell?_alloc_past _ _ _ (by first | (simp; done) | (simp; omega))])); rw [World.cell?_alloc_at _ _ _ _ (by simp)]; rfl)
              have gg := kep_next (kep_more (Kep.refl _ _) _) g1)))
    go_ret
    exact ⟨rfl, gg⟩
  have E1 := Lib.hid (O.of x y hx hy)
  have E2 := Lib.hid (O.of (x + dx) (y + dy) ⟨by omega, by omega⟩ ⟨by omega, by omega⟩)
  have a1 := colN_in hx
  have a2 := colN_in hy
  have b1 : colN x ≤ colN (x + dx) ∧ colN (x + dx) ≤ colN x + 1 := by unfold colN; omega
  have b2 : colN y ≤ colN (y + dy) ∧ colN (y + dy) ≤ colN y + 1 := by unfold colN; omega
  obtain ⟨x', hx'⟩ : ∃ x', x + dx = x' := ⟨_, rfl⟩
  obtain ⟨y', hy'⟩ : ∃ y', y + dy = y' := ⟨_, rfl⟩
  rw [hx'] at E2 b1
  rw [hy'] at E2 b2
  have s1 : wrap32 (x + dx) = x' := by unfold wrap32; omega
  have s2 : wrap32 (y + dy) = y' := by unfold wrap32; omega
  have s3 := wrap_ib s1
  have s4 := wrap_ib s2
  clear hx' hy'
  generalize colN x = p at E1 a1 b1
  generalize colN y = q at E1 a2 b2
  generalize colN x' = p' at E2 b1
  generalize colN y' = q' at E2 b2
  obtain ⟨b1, b3⟩ := b1
  obtain ⟨b2, b4⟩ := b2
  have t1 : wrap32 (p + 1) = p + 1 := by unfold wrap32; omega
  have t2 : wrap32 (q + 1) = q + 1 := by unfold wrap32; omega
  have t3 := wrap_ib t1
  have t4 := wrap_ib t2
  clear a1 a2 hx hy
  go_enter Tryd.func7, Tryd.ntmps7
  go_wp2_with (first
    | ((with_reducible refine (AWH.out _ (F0.kep (by (repeat (first | with_reducible assumption | refine kep_more ?_ _ | refine kep_drew ?_ | exact Kep.refl _ _))))).mono ?_); rintro e w1 ⟨rfl, g1⟩
       have n0 := Kep.all g1 (a := ⟨w.heap.size, 0, none⟩) (v := .int .i32 x) (by (repeat (first | rw [World.cell?_drew] | rw [World.cell?_alloc_past _ _ _ (by first | (simp; done) | (simp; omega))])); rw [World.cell?_alloc_at _ _ _ _ (by simp)]; rfl)
       have n1 := Kep.all g1 (a := ⟨w.heap.size, 1, none⟩) (v := .int .i32 y) (by (repeat (first | rw [World.cell?_drew] | rw [World.cell?_alloc_past _ _ _ (by first | (simp; done) | (simp; omega))])); rw [World.cell?_alloc_at _ _ _ _ (by simp)]; rfl)
       have gg := kep_next (kep_more (Kep.refl _ _) _) g1
       have zn_w1 : w.heap.size < w1.heap.size := World.block_lt_of_cell? _ _ n0)
    | ((with_reducible refine (E1.out _).mono ?_); rintro e w2 ⟨rfl, g2⟩
       replace n0 := Kep.all g2 (a := ⟨w.heap.size, 0, none⟩) (v := .int .i32 x) n0
       replace n1 := Kep.all g2 (a := ⟨w.heap.size, 1, none⟩) (v := .int .i32 y) n1
       replace gg := kep_next gg g2
       have zn_w2 : w.heap.size < w2.heap.size := World.block_lt_of_cell? _ _ n0)
    | ((with_reducible refine (E2.out _).mono ?_); rintro e w3 ⟨rfl, g3⟩
       replace n0 := Kep.all g3 (a := ⟨w.heap.size, 0, none⟩) (v := .int .i32 x) (Kep.all (kep_more (Kep.refl _ _) _) n0)
       replace n1 := Kep.all g3 (a := ⟨w.heap.size, 1, none⟩) (v := .int .i32 y) (Kep.all (kep_more (Kep.refl _ _) _) n1)
       have a0 := Kep.all g3 (a := ⟨w2.heap.size, 0, none⟩) (v := .int .i32 p) (by (repeat (first | rw [World.cell?_drew] | rw [World.cell?_alloc_past _ _ _ (by first | (simp; done) | (simp; omega))])); rw [World.cell?_alloc_at _ _ _ _ (by simp)]; rfl)
       have a1 := Kep.all g3 (a := ⟨w2.heap.size, 1, none⟩) (v := .int .i32 q) (by (repeat (first | rw [World.cell?_drew] | rw [World.cell?_alloc_past _ _ _ (by first | (simp; done) | (simp; omega))])); rw [World.cell?_alloc_at _ _ _ _ (by simp)]; rfl)
       replace gg := kep_next (kep_more gg _) g3
       have zn_w3 : w.heap.size < w3.heap.size := World.block_lt_of_cell? _ _ n0
       have za_w3 : w2.heap.size < w3.heap.size := World.block_lt_of_cell? _ _ a0))
  go_ret
  exact ⟨rfl, by first | exact gg | exact kep_more gg _⟩
end Go.Proofs.YtnbncdgadahhbaaDoor
