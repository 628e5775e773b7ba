/-
  Package impulse: the documentation's examples.
-/
import Derived.Test.YtnmlknjjbonenaaImpCon
import Derived.Deep.DeepCutAuto
import Derived.Deep.QuietTactic
import Derived.BigQuiet
namespace Go.Proofs.Ytnmlknjjbonenaa
open Go.RowKit Go.Lib

def exPa : Bd := ⟨1, 65536, 0, 0, 65536, 0, 0, 0, 65536, 0⟩
def exPb : Bd := ⟨2, 65536, 0, 0, 65536, 7, 0, 0, 0, 0⟩
def exPd : Bd := ⟨2, 65536, 0, 0, 65536, 0, 0, 0, 0, 0⟩
set_option maxRecDepth 100000 in
set_option maxHeartbeats 4000000 in
theorem imp_awake (O : IOps) : IAwake := fun w => by
  have ka : okI exPa := by decide
  have kb : okI exPb := by decide
  have kd : okI exPd := by decide
  have n1 : Nr 65536 := by decide
  have n2 : Nr 0 := by decide
  have n3 : Nr (-65536) := by decide
  have n4 : Nr 1 := by decide
  have C0 : Hid (∀ w, Calls Try.prog 15 #[.int .i64 32768, .int .i32 65536, .agg #[.int .i32 (-65536), .int .i32 1]] w fun e w' => e = .returned (.tuple #[.int .i64 (-32768), .int .i64 0]) ∧ Kep w.heap.size w w') := Lib.hid (O.chg (j := 32768) (i := 65536) (nx := -65536) (ny := 1) (by decide) (by decide) n3 n4)
  have C1 : Hid (∀ w, Calls Try.prog 10 #[.agg #[.int .u32 0, .int .u32 0, .int .i32 65536, .int .i32 0, .int .i32 0], .agg #[.int .u32 1, .int .i32 65536, .int .i32 0, .int .i32 0, .int .i32 65536, .int .i32 0, .int .i32 0, .int .i32 0, .int .i32 65536, .int .i32 0], .agg #[.int .u32 2, .int .i32 65536, .int .i32 0, .int .i32 0, .int .i32 65536, .int .i32 7, .int .i32 0, .int .i32 0, .int .i32 0, .int .i32 0]] w fun e w' => e = .returned (.int .i64 (-65536)) ∧ Kep w.heap.size w w') := Lib.hid (O.appr (lo := 0) (hi := 0) (dp := 0) (x := exPa) (y := exPb) ka kb n1 n2)
  have C2 : Hid (∀ w, Calls Try.prog 12 #[.agg #[.int .u32 1, .int .i32 65536, .int .i32 0, .int .i32 0, .int .i32 65536, .int .i32 0, .int .i32 0, .int .i32 0, .int .i32 65536, .int .i32 0], .agg #[.int .u32 2, .int .i32 65536, .int .i32 0, .int .i32 0, .int .i32 65536, .int .i32 7, .int .i32 0, .int .i32 0, .int .i32 0, .int .i32 0]] w fun e w' => e = .returned (.int .i32 7) ∧ Kep w.heap.size w w') := Lib.hid (O.bnc (x := exPa) (y := exPb) ka kb)
  have C3 : Hid (∀ w, Calls Try.prog 13 #[.agg #[.int .u32 0, .int .u32 0, .int .i32 65536, .int .i32 0, .int .i32 0], .agg #[.int .u32 1, .int .i32 65536, .int .i32 0, .int .i32 0, .int .i32 65536, .int .i32 0, .int .i32 0, .int .i32 0, .int .i32 65536, .int .i32 0], .agg #[.int .u32 2, .int .i32 65536, .int .i32 0, .int .i32 0, .int .i32 65536, .int .i32 0, .int .i32 0, .int .i32 0, .int .i32 0, .int .i32 0]] w fun e w' => e = .returned (.int .i64 32768) ∧ Kep w.heap.size w w') := Lib.hid (O.str (lo := 0) (hi := 0) (dp := 0) (x := exPa) (y := exPd) ka kd n1 n2)
  have C4 : Hid (∀ w, Calls Try.prog 13 #[.agg #[.int .u32 0, .int .u32 0, .int .i32 65536, .int .i32 0, .int .i32 0], .agg #[.int .u32 2, .int .i32 65536, .int .i32 0, .int .i32 0, .int .i32 65536, .int .i32 7, .int .i32 0, .int .i32 0, .int .i32 0, .int .i32 0], .agg #[.int .u32 1, .int .i32 65536, .int .i32 0, .int .i32 0, .int .i32 65536, .int .i32 0, .int .i32 0, .int .i32 0, .int .i32 65536, .int .i32 0]] w fun e w' => e = .returned (.int .i64 0) ∧ Kep w.heap.size w w') := Lib.hid (O.str (lo := 0) (hi := 0) (dp := 0) (x := exPb) (y := exPa) kb ka n1 n2)
  clear ka kb kd n1 n2 n3 n4
  go_enter Try.func8, Try.ntmps8
  go_wp2_with (first
    | ((with_reducible refine (C0.out _).mono ?_); rintro e w1 ⟨rfl, g1⟩
       have c0 := Kep.all g1 (a := ⟨w.heap.size, 0, none⟩) (v := .int .u32 0) (by (repeat (first | rw [World.cell?_drew] | rw [World.cell?_alloc_past _ _ _ (by first | (simp; done) | (simp; omega))])); rw [World.cell?_alloc_at _ _ _ _ (by simp)]; rfl)
       have c1 := Kep.all g1 (a := ⟨w.heap.size, 1, none⟩) (v := .int .u32 0) (by (repeat (first | rw [World.cell?_drew] | rw [World.cell?_alloc_past _ _ _ (by first | (simp; done) | (simp; omega))])); rw [World.cell?_alloc_at _ _ _ _ (by simp)]; rfl)
       have c2 := Kep.all g1 (a := ⟨w.heap.size, 2, none⟩) (v := .int .i32 65536) (by (repeat (first | rw [World.cell?_drew] | rw [World.cell?_alloc_past _ _ _ (by first | (simp; done) | (simp; omega))])); rw [World.cell?_alloc_at _ _ _ _ (by simp)]; rfl)
       have c3 := Kep.all g1 (a := ⟨w.heap.size, 3, none⟩) (v := .int .i32 0) (by (repeat (first | rw [World.cell?_drew] | rw [World.cell?_alloc_past _ _ _ (by first | (simp; done) | (simp; omega))])); rw [World.cell?_alloc_at _ _ _ _ (by simp)]; rfl)
       have c4 := Kep.all g1 (a := ⟨w.heap.size, 4, none⟩) (v := .int .i32 0) (by (repeat (first | rw [World.cell?_drew] | rw [World.cell?_alloc_past _ _ _ (by first | (simp; done) | (simp; omega))])); rw [World.cell?_alloc_at _ _ _ _ (by simp)]; rfl)
       have a0 := Kep.all g1 (a := ⟨w.heap.size + 1, 0, none⟩) (v := .int .u32 1) (by (repeat (first | rw [World.cell?_drew] | rw [World.cell?_alloc_past _ _ _ (by first | (simp; done) | (simp; omega))])); rw [World.cell?_alloc_at _ _ _ _ (by simp)]; rfl)
       have a1 := Kep.all g1 (a := ⟨w.heap.size + 1, 1, none⟩) (v := .int .i32 65536) (by (repeat (first | rw [World.cell?_drew] | rw [World.cell?_alloc_past _ _ _ (by first | (simp; done) | (simp; omega))])); rw [World.cell?_alloc_at _ _ _ _ (by simp)]; rfl)
       have a2 := Kep.all g1 (a := ⟨w.heap.size + 1, 2, none⟩) (v := .int .i32 0) (by (repeat (first | rw [World.cell?_drew] | rw [World.cell?_alloc_past _ _ _ (by first | (simp; done) | (simp; omega))])); rw [World.cell?_alloc_at _ _ _ _ (by simp)]; rfl)
       have a3 := Kep.all g1 (a := ⟨w.heap.size + 1, 3, none⟩) (v := .int .i32 0) (by (repeat (first | rw [World.cell?_drew] | rw [World.cell?_alloc_past _ _ _ (by first | (simp; done) | (simp; omega))])); rw [World.cell?_alloc_at _ _ _ _ (by simp)]; rfl)
       have a4 := Kep.all g1 (a := ⟨w.heap.size + 1, 4, none⟩) (v := .int .i32 65536) (by (repeat (first | rw [World.cell?_drew] | rw [World.cell?_alloc_past _ _ _ (by first | (simp; done) | (simp; omega))])); rw [World.cell?_alloc_at _ _ _ _ (by simp)]; rfl)
       have a5 := Kep.all g1 (a := ⟨w.heap.size + 1, 5, none⟩) (v := .int .i32 0) (by (repeat (first | rw [World.cell?_drew] | rw [World.cell?_alloc_past _ _ _ (by first | (simp; done) | (simp; omega))])); rw [World.cell?_alloc_at _ _ _ _ (by simp)]; rfl)
       have a6 := Kep.all g1 (a := ⟨w.heap.size + 1, 6, none⟩) (v := .int .i32 0) (by (repeat (first | rw [World.cell?_drew] | rw [World.cell?_alloc_past _ _ _ (by first | (simp; done) | (simp; omega))])); rw [World.cell?_alloc_at _ _ _ _ (by simp)]; rfl)
       have a7 := Kep.all g1 (a := ⟨w.heap.size + 1, 7, none⟩) (v := .int .i32 0) (by (repeat (first | rw [World.cell?_drew] | rw [World.cell?_alloc_past _ _ _ (by first | (simp; done) | (simp; omega))])); rw [World.cell?_alloc_at _ _ _ _ (by simp)]; rfl)
       have a8 := Kep.all g1 (a := ⟨w.heap.size + 1, 8, none⟩) (v := .int .i32 65536) (by (repeat (first | rw [World.cell?_drew] | rw [World.cell?_alloc_past _ _ _ (by first | (simp; done) | (simp; omega))])); rw [World.cell?_alloc_at _ _ _ _ (by simp)]; rfl)
       have a9 := Kep.all g1 (a := ⟨w.heap.size + 1, 9, none⟩) (v := .int .i32 0) (by (repeat (first | rw [World.cell?_drew] | rw [World.cell?_alloc_past _ _ _ (by first | (simp; done) | (simp; omega))])); rw [World.cell?_alloc_at _ _ _ _ (by simp)]; rfl)
       have b0 := Kep.all g1 (a := ⟨w.heap.size + 1 + 1, 0, none⟩) (v := .int .u32 2) (by (repeat (first | rw [World.cell?_drew] | rw [World.cell?_alloc_past _ _ _ (by first | (simp; done) | (simp; omega))])); rw [World.cell?_alloc_at _ _ _ _ (by simp)]; rfl)
       have b1 := Kep.all g1 (a := ⟨w.heap.size + 1 + 1, 1, none⟩) (v := .int .i32 65536) (by (repeat (first | rw [World.cell?_drew] | rw [World.cell?_alloc_past _ _ _ (by first | (simp; done) | (simp; omega))])); rw [World.cell?_alloc_at _ _ _ _ (by simp)]; rfl)
       have b2 := Kep.all g1 (a := ⟨w.heap.size + 1 + 1, 2, none⟩) (v := .int .i32 0) (by (repeat (first | rw [World.cell?_drew] | rw [World.cell?_alloc_past _ _ _ (by first | (simp; done) | (simp; omega))])); rw [World.cell?_alloc_at _ _ _ _ (by simp)]; rfl)
       have b3 := Kep.all g1 (a := ⟨w.heap.size + 1 + 1, 3, none⟩) (v := .int .i32 0) (by (repeat (first | rw [World.cell?_drew] | rw [World.cell?_alloc_past _ _ _ (by first | (simp; done) | (simp; omega))])); rw [World.cell?_alloc_at _ _ _ _ (by simp)]; rfl)
       have b4 := Kep.all g1 (a := ⟨w.heap.size + 1 + 1, 4, none⟩) (v := .int .i32 65536) (by (repeat (first | rw [World.cell?_drew] | rw [World.cell?_alloc_past _ _ _ (by first | (simp; done) | (simp; omega))])); rw [World.cell?_alloc_at _ _ _ _ (by simp)]; rfl)
       have b5 := Kep.all g1 (a := ⟨w.heap.size + 1 + 1, 5, none⟩) (v := .int .i32 7) (by (repeat (first | rw [World.cell?_drew] | rw [World.cell?_alloc_past _ _ _ (by first | (simp; done) | (simp; omega))])); rw [World.cell?_alloc_at _ _ _ _ (by simp)]; rfl)
       have b6 := Kep.all g1 (a := ⟨w.heap.size + 1 + 1, 6, none⟩) (v := .int .i32 0) (by (repeat (first | rw [World.cell?_drew] | rw [World.cell?_alloc_past _ _ _ (by first | (simp; done) | (simp; omega))])); rw [World.cell?_alloc_at _ _ _ _ (by simp)]; rfl)
       have b7 := Kep.all g1 (a := ⟨w.heap.size + 1 + 1, 7, none⟩) (v := .int .i32 0) (by (repeat (first | rw [World.cell?_drew] | rw [World.cell?_alloc_past _ _ _ (by first | (simp; done) | (simp; omega))])); rw [World.cell?_alloc_at _ _ _ _ (by simp)]; rfl)
       have b8 := Kep.all g1 (a := ⟨w.heap.size + 1 + 1, 8, none⟩) (v := .int .i32 0) (by (repeat (first | rw [World.cell?_drew] | rw [World.cell?_alloc_past _ _ _ (by first | (simp; done) | (simp; omega))])); rw [World.cell?_alloc_at _ _ _ _ (by simp)]; rfl)
       have b9 := Kep.all g1 (a := ⟨w.heap.size + 1 + 1, 9, none⟩) (v := .int .i32 0) (by (repeat (first | rw [World.cell?_drew] | rw [World.cell?_alloc_past _ _ _ (by first | (simp; done) | (simp; omega))])); rw [World.cell?_alloc_at _ _ _ _ (by simp)]; rfl)
       have d0 := Kep.all g1 (a := ⟨w.heap.size + 1 + 1 + 1, 0, none⟩) (v := .int .u32 2) (by (repeat (first | rw [World.cell?_drew] | rw [World.cell?_alloc_past _ _ _ (by first | (simp; done) | (simp; omega))])); rw [World.cell?_alloc_at _ _ _ _ (by simp)]; rfl)
       have d1 := Kep.all g1 (a := ⟨w.heap.size + 1 + 1 + 1, 1, none⟩) (v := .int .i32 65536) (by (repeat (first | rw [World.cell?_drew] | rw [World.cell?_alloc_past _ _ _ (by first | (simp; done) | (simp; omega))])); rw [World.cell?_alloc_at _ _ _ _ (by simp)]; rfl)
       have d2 := Kep.all g1 (a := ⟨w.heap.size + 1 + 1 + 1, 2, none⟩) (v := .int .i32 0) (by (repeat (first | rw [World.cell?_drew] | rw [World.cell?_alloc_past _ _ _ (by first | (simp; done) | (simp; omega))])); rw [World.cell?_alloc_at _ _ _ _ (by simp)]; rfl)
       have d3 := Kep.all g1 (a := ⟨w.heap.size + 1 + 1 + 1, 3, none⟩) (v := .int .i32 0) (by (repeat (first | rw [World.cell?_drew] | rw [World.cell?_alloc_past _ _ _ (by first | (simp; done) | (simp; omega))])); rw [World.cell?_alloc_at _ _ _ _ (by simp)]; rfl)
       have d4 := Kep.all g1 (a := ⟨w.heap.size + 1 + 1 + 1, 4, none⟩) (v := .int .i32 65536) (by (repeat (first | rw [World.cell?_drew] | rw [World.cell?_alloc_past _ _ _ (by first | (simp; done) | (simp; omega))])); rw [World.cell?_alloc_at _ _ _ _ (by simp)]; rfl)
       have d5 := Kep.all g1 (a := ⟨w.heap.size + 1 + 1 + 1, 5, none⟩) (v := .int .i32 0) (by (repeat (first | rw [World.cell?_drew] | rw [World.cell?_alloc_past _ _ _ (by first | (simp; done) | (simp; omega))])); rw [World.cell?_alloc_at _ _ _ _ (by simp)]; rfl)
       have d6 := Kep.all g1 (a := ⟨w.heap.size + 1 + 1 + 1, 6, none⟩) (v := .int .i32 0) (by (repeat (first | rw [World.cell?_drew] | rw [World.cell?_alloc_past _ _ _ (by first | (simp; done) | (simp; omega))])); rw [World.cell?_alloc_at _ _ _ _ (by simp)]; rfl)
       have d7 := Kep.all g1 (a := ⟨w.heap.size + 1 + 1 + 1, 7, none⟩) (v := .int .i32 0) (by (repeat (first | rw [World.cell?_drew] | rw [World.cell?_alloc_past _ _ _ (by first | (simp; done) | (simp; omega))])); rw [World.cell?_alloc_at _ _ _ _ (by simp)]; rfl)
       have d8 := Kep.all g1 (a := ⟨w.heap.size + 1 + 1 + 1, 8, none⟩) (v := .int .i32 0) (by (repeat (first | rw [World.cell?_drew] | rw [World.cell?_alloc_past _ _ _ (by first | (simp; done) | (simp; omega))])); rw [World.cell?_alloc_at _ _ _ _ (by simp)]; rfl)
       have d9 := Kep.all g1 (a := ⟨w.heap.size + 1 + 1 + 1, 9, none⟩) (v := .int .i32 0) (by (repeat (first | rw [World.cell?_drew] | rw [World.cell?_alloc_past _ _ _ (by first | (simp; done) | (simp; omega))])); rw [World.cell?_alloc_at _ _ _ _ (by simp)]; rfl)
       have gg := kep_next (kep_more (kep_more (kep_more (kep_more (Kep.refl _ _) _) _) _) _) g1
       have zc_w1 : w.heap.size < w1.heap.size := World.block_lt_of_cell? _ _ c0
       have za_w1 : w.heap.size + 1 < w1.heap.size := World.block_lt_of_cell? _ _ a0
       have zb_w1 : w.heap.size + 1 + 1 < w1.heap.size := World.block_lt_of_cell? _ _ b0
       have zd_w1 : w.heap.size + 1 + 1 + 1 < w1.heap.size := World.block_lt_of_cell? _ _ d0)
    | ((with_reducible refine (C1.out _).mono ?_); rintro e w2 ⟨rfl, g2⟩
       replace c0 := Kep.all g2 (a := ⟨w.heap.size, 0, none⟩) (v := .int .u32 0) c0
       replace c1 := Kep.all g2 (a := ⟨w.heap.size, 1, none⟩) (v := .int .u32 0) c1
       replace c2 := Kep.all g2 (a := ⟨w.heap.size, 2, none⟩) (v := .int .i32 65536) c2
       replace c3 := Kep.all g2 (a := ⟨w.heap.size, 3, none⟩) (v := .int .i32 0) c3
       replace c4 := Kep.all g2 (a := ⟨w.heap.size, 4, none⟩) (v := .int .i32 0) c4
       replace a0 := Kep.all g2 (a := ⟨w.heap.size + 1, 0, none⟩) (v := .int .u32 1) a0
       replace a1 := Kep.all g2 (a := ⟨w.heap.size + 1, 1, none⟩) (v := .int .i32 65536) a1
       replace a2 := Kep.all g2 (a := ⟨w.heap.size + 1, 2, none⟩) (v := .int .i32 0) a2
       replace a3 := Kep.all g2 (a := ⟨w.heap.size + 1, 3, none⟩) (v := .int .i32 0) a3
       replace a4 := Kep.all g2 (a := ⟨w.heap.size + 1, 4, none⟩) (v := .int .i32 65536) a4
       replace a5 := Kep.all g2 (a := ⟨w.heap.size + 1, 5, none⟩) (v := .int .i32 0) a5
       replace a6 := Kep.all g2 (a := ⟨w.heap.size + 1, 6, none⟩) (v := .int .i32 0) a6
       replace a7 := Kep.all g2 (a := ⟨w.heap.size + 1, 7, none⟩) (v := .int .i32 0) a7
       replace a8 := Kep.all g2 (a := ⟨w.heap.size + 1, 8, none⟩) (v := .int .i32 65536) a8
       replace a9 := Kep.all g2 (a := ⟨w.heap.size + 1, 9, none⟩) (v := .int .i32 0) a9
       replace b0 := Kep.all g2 (a := ⟨w.heap.size + 1 + 1, 0, none⟩) (v := .int .u32 2) b0
       replace b1 := Kep.all g2 (a := ⟨w.heap.size + 1 + 1, 1, none⟩) (v := .int .i32 65536) b1
       replace b2 := Kep.all g2 (a := ⟨w.heap.size + 1 + 1, 2, none⟩) (v := .int .i32 0) b2
       replace b3 := Kep.all g2 (a := ⟨w.heap.size + 1 + 1, 3, none⟩) (v := .int .i32 0) b3
       replace b4 := Kep.all g2 (a := ⟨w.heap.size + 1 + 1, 4, none⟩) (v := .int .i32 65536) b4
       replace b5 := Kep.all g2 (a := ⟨w.heap.size + 1 + 1, 5, none⟩) (v := .int .i32 7) b5
       replace b6 := Kep.all g2 (a := ⟨w.heap.size + 1 + 1, 6, none⟩) (v := .int .i32 0) b6
       replace b7 := Kep.all g2 (a := ⟨w.heap.size + 1 + 1, 7, none⟩) (v := .int .i32 0) b7
       replace b8 := Kep.all g2 (a := ⟨w.heap.size + 1 + 1, 8, none⟩) (v := .int .i32 0) b8
       replace b9 := Kep.all g2 (a := ⟨w.heap.size + 1 + 1, 9, none⟩) (v := .int .i32 0) b9
       replace d0 := Kep.all g2 (a := ⟨w.heap.size + 1 + 1 + 1, 0, none⟩) (v := .int .u32 2) d0
       replace d1 := Kep.all g2 (a := ⟨w.heap.size + 1 + 1 + 1, 1, none⟩) (v := .int .i32 65536) d1
       replace d2 := Kep.all g2 (a := ⟨w.heap.size + 1 + 1 + 1, 2, none⟩) (v := .int .i32 0) d2
       replace d3 := Kep.all g2 (a := ⟨w.heap.size + 1 + 1 + 1, 3, none⟩) (v := .int .i32 0) d3
       replace d4 := Kep.all g2 (a := ⟨w.heap.size + 1 + 1 + 1, 4, none⟩) (v := .int .i32 65536) d4
       replace d5 := Kep.all g2 (a := ⟨w.heap.size + 1 + 1 + 1, 5, none⟩) (v := .int .i32 0) d5
       replace d6 := Kep.all g2 (a := ⟨w.heap.size + 1 + 1 + 1, 6, none⟩) (v := .int .i32 0) d6
       replace d7 := Kep.all g2 (a := ⟨w.heap.size + 1 + 1 + 1, 7, none⟩) (v := .int .i32 0) d7
       replace d8 := Kep.all g2 (a := ⟨w.heap.size + 1 + 1 + 1, 8, none⟩) (v := .int .i32 0) d8
       replace d9 := Kep.all g2 (a := ⟨w.heap.size + 1 + 1 + 1, 9, none⟩) (v := .int .i32 0) d9
       replace gg := kep_next gg g2
       have zc_w2 : w.heap.size < w2.heap.size := World.block_lt_of_cell? _ _ c0
       have za_w2 : w.heap.size + 1 < w2.heap.size := World.block_lt_of_cell? _ _ a0
       have zb_w2 : w.heap.size + 1 + 1 < w2.heap.size := World.block_lt_of_cell? _ _ b0
       have zd_w2 : w.heap.size + 1 + 1 + 1 < w2.heap.size := World.block_lt_of_cell? _ _ d0)
    | ((with_reducible refine (C2.out _).mono ?_); rintro e w3 ⟨rfl, g3⟩
       replace c0 := Kep.all g3 (a := ⟨w.heap.size, 0, none⟩) (v := .int .u32 0) c0
       replace c1 := Kep.all g3 (a := ⟨w.heap.size, 1, none⟩) (v := .int .u32 0) c1
       replace c2 := Kep.all g3 (a := ⟨w.heap.size, 2, none⟩) (v := .int .i32 65536) c2
       replace c3 := Kep.all g3 (a := ⟨w.heap.size, 3, none⟩) (v := .int .i32 0) c3
       replace c4 := Kep.all g3 (a := ⟨w.heap.size, 4, none⟩) (v := .int .i32 0) c4
       replace a0 := Kep.all g3 (a := ⟨w.heap.size + 1, 0, none⟩) (v := .int .u32 1) a0
       replace a1 := Kep.all g3 (a := ⟨w.heap.size + 1, 1, none⟩) (v := .int .i32 65536) a1
       replace a2 := Kep.all g3 (a := ⟨w.heap.size + 1, 2, none⟩) (v := .int .i32 0) a2
       replace a3 := Kep.all g3 (a := ⟨w.heap.size + 1, 3, none⟩) (v := .int .i32 0) a3
       replace a4 := Kep.all g3 (a := ⟨w.heap.size + 1, 4, none⟩) (v := .int .i32 65536) a4
       replace a5 := Kep.all g3 (a := ⟨w.heap.size + 1, 5, none⟩) (v := .int .i32 0) a5
       replace a6 := Kep.all g3 (a := ⟨w.heap.size + 1, 6, none⟩) (v := .int .i32 0) a6
       replace a7 := Kep.all g3 (a := ⟨w.heap.size + 1, 7, none⟩) (v := .int .i32 0) a7
       replace a8 := Kep.all g3 (a := ⟨w.heap.size + 1, 8, none⟩) (v := .int .i32 65536) a8
       replace a9 := Kep.all g3 (a := ⟨w.heap.size + 1, 9, none⟩) (v := .int .i32 0) a9
       replace b0 := Kep.all g3 (a := ⟨w.heap.size + 1 + 1, 0, none⟩) (v := .int .u32 2) b0
       replace b1 := Kep.all g3 (a := ⟨w.heap.size + 1 + 1, 1, none⟩) (v := .int .i32 65536) b1
       replace b2 := Kep.all g3 (a := ⟨w.heap.size + 1 + 1, 2, none⟩) (v := .int .i32 0) b2
       replace b3 := Kep.all g3 (a := ⟨w.heap.size + 1 + 1, 3, none⟩) (v := .int .i32 0) b3
       replace b4 := Kep.all g3 (a := ⟨w.heap.size + 1 + 1, 4, none⟩) (v := .int .i32 65536) b4
       replace b5 := Kep.all g3 (a := ⟨w.heap.size + 1 + 1, 5, none⟩) (v := .int .i32 7) b5
       replace b6 := Kep.all g3 (a := ⟨w.heap.size + 1 + 1, 6, none⟩) (v := .int .i32 0) b6
       replace b7 := Kep.all g3 (a := ⟨w.heap.size + 1 + 1, 7, none⟩) (v := .int .i32 0) b7
       replace b8 := Kep.all g3 (a := ⟨w.heap.size + 1 + 1, 8, none⟩) (v := .int .i32 0) b8
       replace b9 := Kep.all g3 (a := ⟨w.heap.size + 1 + 1, 9, none⟩) (v := .int .i32 0) b9
       replace d0 := Kep.all g3 (a := ⟨w.heap.size + 1 + 1 + 1, 0, none⟩) (v := .int .u32 2) d0
       replace d1 := Kep.all g3 (a := ⟨w.heap.size + 1 + 1 + 1, 1, none⟩) (v := .int .i32 65536) d1
       replace d2 := Kep.all g3 (a := ⟨w.heap.size + 1 + 1 + 1, 2, none⟩) (v := .int .i32 0) d2
       replace d3 := Kep.all g3 (a := ⟨w.heap.size + 1 + 1 + 1, 3, none⟩) (v := .int .i32 0) d3
       replace d4 := Kep.all g3 (a := ⟨w.heap.size + 1 + 1 + 1, 4, none⟩) (v := .int .i32 65536) d4
       replace d5 := Kep.all g3 (a := ⟨w.heap.size + 1 + 1 + 1, 5, none⟩) (v := .int .i32 0) d5
       replace d6 := Kep.all g3 (a := ⟨w.heap.size + 1 + 1 + 1, 6, none⟩) (v := .int .i32 0) d6
       replace d7 := Kep.all g3 (a := ⟨w.heap.size + 1 + 1 + 1, 7, none⟩) (v := .int .i32 0) d7
       replace d8 := Kep.all g3 (a := ⟨w.heap.size + 1 + 1 + 1, 8, none⟩) (v := .int .i32 0) d8
       replace d9 := Kep.all g3 (a := ⟨w.heap.size + 1 + 1 + 1, 9, none⟩) (v := .int .i32 0) d9
       replace gg := kep_next gg g3
       have zc_w3 : w.heap.size < w3.heap.size := World.block_lt_of_cell? _ _ c0
       have za_w3 : w.heap.size + 1 < w3.heap.size := World.block_lt_of_cell? _ _ a0
       have zb_w3 : w.heap.size + 1 + 1 < w3.heap.size := World.block_lt_of_cell? _ _ b0
       have zd_w3 : w.heap.size + 1 + 1 + 1 < w3.heap.size := World.block_lt_of_cell? _ _ d0)
    | ((with_reducible refine (C3.out _).mono ?_); rintro e w4 ⟨rfl, g4⟩
       replace c0 := Kep.all g4 (a := ⟨w.heap.size, 0, none⟩) (v := .int .u32 0) c0
       replace c1 := Kep.all g4 (a := ⟨w.heap.size, 1, none⟩) (v := .int .u32 0) c1
       replace c2 := Kep.all g4 (a := ⟨w.heap.size, 2, none⟩) (v := .int .i32 65536) c2
       replace c3 := Kep.all g4 (a := ⟨w.heap.size, 3, none⟩) (v := .int .i32 0) c3
       replace c4 := Kep.all g4 (a := ⟨w.heap.size, 4, none⟩) (v := .int .i32 0) c4
       replace a0 := Kep.all g4 (a := ⟨w.heap.size + 1, 0, none⟩) (v := .int .u32 1) a0
       replace a1 := Kep.all g4 (a := ⟨w.heap.size + 1, 1, none⟩) (v := .int .i32 65536) a1
       replace a2 := Kep.all g4 (a := ⟨w.heap.size + 1, 2, none⟩) (v := .int .i32 0) a2
       replace a3 := Kep.all g4 (a := ⟨w.heap.size + 1, 3, none⟩) (v := .int .i32 0) a3
       replace a4 := Kep.all g4 (a := ⟨w.heap.size + 1, 4, none⟩) (v := .int .i32 65536) a4
       replace a5 := Kep.all g4 (a := ⟨w.heap.size + 1, 5, none⟩) (v := .int .i32 0) a5
       replace a6 := Kep.all g4 (a := ⟨w.heap.size + 1, 6, none⟩) (v := .int .i32 0) a6
       replace a7 := Kep.all g4 (a := ⟨w.heap.size + 1, 7, none⟩) (v := .int .i32 0) a7
       replace a8 := Kep.all g4 (a := ⟨w.heap.size + 1, 8, none⟩) (v := .int .i32 65536) a8
       replace a9 := Kep.all g4 (a := ⟨w.heap.size + 1, 9, none⟩) (v := .int .i32 0) a9
       replace b0 := Kep.all g4 (a := ⟨w.heap.size + 1 + 1, 0, none⟩) (v := .int .u32 2) b0
       replace b1 := Kep.all g4 (a := ⟨w.heap.size + 1 + 1, 1, none⟩) (v := .int .i32 65536) b1
       replace b2 := Kep.all g4 (a := ⟨w.heap.size + 1 + 1, 2, none⟩) (v := .int .i32 0) b2
       replace b3 := Kep.all g4 (a := ⟨w.heap.size + 1 + 1, 3, none⟩) (v := .int .i32 0) b3
       replace b4 := Kep.all g4 (a := ⟨w.heap.size + 1 + 1, 4, none⟩) (v := .int .i32 65536) b4
       replace b5 := Kep.all g4 (a := ⟨w.heap.size + 1 + 1, 5, none⟩) (v := .int .i32 7) b5
       replace b6 := Kep.all g4 (a := ⟨w.heap.size + 1 + 1, 6, none⟩) (v := .int .i32 0) b6
       replace b7 := Kep.all g4 (a := ⟨w.heap.size + 1 + 1, 7, none⟩) (v := .int .i32 0) b7
       replace b8 := Kep.all g4 (a := ⟨w.heap.size + 1 + 1, 8, none⟩) (v := .int .i32 0) b8
       replace b9 := Kep.all g4 (a := ⟨w.heap.size + 1 + 1, 9, none⟩) (v := .int .i32 0) b9
       replace d0 := Kep.all g4 (a := ⟨w.heap.size + 1 + 1 + 1, 0, none⟩) (v := .int .u32 2) d0
       replace d1 := Kep.all g4 (a := ⟨w.heap.size + 1 + 1 + 1, 1, none⟩) (v := .int .i32 65536) d1
       replace d2 := Kep.all g4 (a := ⟨w.heap.size + 1 + 1 + 1, 2, none⟩) (v := .int .i32 0) d2
       replace d3 := Kep.all g4 (a := ⟨w.heap.size + 1 + 1 + 1, 3, none⟩) (v := .int .i32 0) d3
       replace d4 := Kep.all g4 (a := ⟨w.heap.size + 1 + 1 + 1, 4, none⟩) (v := .int .i32 65536) d4
       replace d5 := Kep.all g4 (a := ⟨w.heap.size + 1 + 1 + 1, 5, none⟩) (v := .int .i32 0) d5
       replace d6 := Kep.all g4 (a := ⟨w.heap.size + 1 + 1 + 1, 6, none⟩) (v := .int .i32 0) d6
       replace d7 := Kep.all g4 (a := ⟨w.heap.size + 1 + 1 + 1, 7, none⟩) (v := .int .i32 0) d7
       replace d8 := Kep.all g4 (a := ⟨w.heap.size + 1 + 1 + 1, 8, none⟩) (v := .int .i32 0) d8
       replace d9 := Kep.all g4 (a := ⟨w.heap.size + 1 + 1 + 1, 9, none⟩) (v := .int .i32 0) d9
       replace gg := kep_next gg g4
       have zc_w4 : w.heap.size < w4.heap.size := World.block_lt_of_cell? _ _ c0
       have za_w4 : w.heap.size + 1 < w4.heap.size := World.block_lt_of_cell? _ _ a0
       have zb_w4 : w.heap.size + 1 + 1 < w4.heap.size := World.block_lt_of_cell? _ _ b0
       have zd_w4 : w.heap.size + 1 + 1 + 1 < w4.heap.size := World.block_lt_of_cell? _ _ d0)
    | ((with_reducible refine (C4.out _).mono ?_); rintro e w5 ⟨rfl, g5⟩
       replace c0 := Kep.all g5 (a := ⟨w.heap.size, 0, none⟩) (v := .int .u32 0) c0
       replace c1 := Kep.all g5 (a := ⟨w.heap.size, 1, none⟩) (v := .int .u32 0) c1
       replace c2 := Kep.all g5 (a := ⟨w.heap.size, 2, none⟩) (v := .int .i32 65536) c2
       replace c3 := Kep.all g5 (a := ⟨w.heap.size, 3, none⟩) (v := .int .i32 0) c3
       replace c4 := Kep.all g5 (a := ⟨w.heap.size, 4, none⟩) (v := .int .i32 0) c4
       replace a0 := Kep.all g5 (a := ⟨w.heap.size + 1, 0, none⟩) (v := .int .u32 1) a0
       replace a1 := Kep.all g5 (a := ⟨w.heap.size + 1, 1, none⟩) (v := .int .i32 65536) a1
       replace a2 := Kep.all g5 (a := ⟨w.heap.size + 1, 2, none⟩) (v := .int .i32 0) a2
       replace a3 := Kep.all g5 (a := ⟨w.heap.size + 1, 3, none⟩) (v := .int .i32 0) a3
       replace a4 := Kep.all g5 (a := ⟨w.heap.size + 1, 4, none⟩) (v := .int .i32 65536) a4
       replace a5 := Kep.all g5 (a := ⟨w.heap.size + 1, 5, none⟩) (v := .int .i32 0) a5
       replace a6 := Kep.all g5 (a := ⟨w.heap.size + 1, 6, none⟩) (v := .int .i32 0) a6
       replace a7 := Kep.all g5 (a := ⟨w.heap.size + 1, 7, none⟩) (v := .int .i32 0) a7
       replace a8 := Kep.all g5 (a := ⟨w.heap.size + 1, 8, none⟩) (v := .int .i32 65536) a8
       replace a9 := Kep.all g5 (a := ⟨w.heap.size + 1, 9, none⟩) (v := .int .i32 0) a9
       replace b0 := Kep.all g5 (a := ⟨w.heap.size + 1 + 1, 0, none⟩) (v := .int .u32 2) b0
       replace b1 := Kep.all g5 (a := ⟨w.heap.size + 1 + 1, 1, none⟩) (v := .int .i32 65536) b1
       replace b2 := Kep.all g5 (a := ⟨w.heap.size + 1 + 1, 2, none⟩) (v := .int .i32 0) b2
       replace b3 := Kep.all g5 (a := ⟨w.heap.size + 1 + 1, 3, none⟩) (v := .int .i32 0) b3
       replace b4 := Kep.all g5 (a := ⟨w.heap.size + 1 + 1, 4, none⟩) (v := .int .i32 65536) b4
       replace b5 := Kep.all g5 (a := ⟨w.heap.size + 1 + 1, 5, none⟩) (v := .int .i32 7) b5
       replace b6 := Kep.all g5 (a := ⟨w.heap.size + 1 + 1, 6, none⟩) (v := .int .i32 0) b6
       replace b7 := Kep.all g5 (a := ⟨w.heap.size + 1 + 1, 7, none⟩) (v := .int .i32 0) b7
       replace b8 := Kep.all g5 (a := ⟨w.heap.size + 1 + 1, 8, none⟩) (v := .int .i32 0) b8
       replace b9 := Kep.all g5 (a := ⟨w.heap.size + 1 + 1, 9, none⟩) (v := .int .i32 0) b9
       replace d0 := Kep.all g5 (a := ⟨w.heap.size + 1 + 1 + 1, 0, none⟩) (v := .int .u32 2) d0
       replace d1 := Kep.all g5 (a := ⟨w.heap.size + 1 + 1 + 1, 1, none⟩) (v := .int .i32 65536) d1
       replace d2 := Kep.all g5 (a := ⟨w.heap.size + 1 + 1 + 1, 2, none⟩) (v := .int .i32 0) d2
       replace d3 := Kep.all g5 (a := ⟨w.heap.size + 1 + 1 + 1, 3, none⟩) (v := .int .i32 0) d3
       replace d4 := Kep.all g5 (a := ⟨w.heap.size + 1 + 1 + 1, 4, none⟩) (v := .int .i32 65536) d4
       replace d5 := Kep.all g5 (a := ⟨w.heap.size + 1 + 1 + 1, 5, none⟩) (v := .int .i32 0) d5
       replace d6 := Kep.all g5 (a := ⟨w.heap.size + 1 + 1 + 1, 6, none⟩) (v := .int .i32 0) d6
       replace d7 := Kep.all g5 (a := ⟨w.heap.size + 1 + 1 + 1, 7, none⟩) (v := .int .i32 0) d7
       replace d8 := Kep.all g5 (a := ⟨w.heap.size + 1 + 1 + 1, 8, none⟩) (v := .int .i32 0) d8
       replace d9 := Kep.all g5 (a := ⟨w.heap.size + 1 + 1 + 1, 9, none⟩) (v := .int .i32 0) d9
       replace gg := kep_next gg g5
       have zc_w5 : w.heap.size < w5.heap.size := World.block_lt_of_cell? _ _ c0
       have za_w5 : w.heap.size + 1 < w5.heap.size := World.block_lt_of_cell? _ _ a0
       have zb_w5 : w.heap.size + 1 + 1 < w5.heap.size := World.block_lt_of_cell? _ _ b0
       have zd_w5 : w.heap.size + 1 + 1 + 1 < w5.heap.size := World.block_lt_of_cell? _ _ d0))
  go_ret
  exact ⟨rfl, gg⟩
end Go.Proofs.Ytnmlknjjbonenaa
