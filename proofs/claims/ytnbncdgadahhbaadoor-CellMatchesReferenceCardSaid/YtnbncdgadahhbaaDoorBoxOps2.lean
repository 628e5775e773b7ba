/-
  Package box: combine, inner, outer, Meet, Union, Overlap.
-/
import Derived.Test.YtnbncdgadahhbaaDoorBoxOps1
import Derived.Deep.DeepCutAuto
import Derived.StillTailTactics
namespace Go.Proofs.YtnbncdgadahhbaaDoor
open Go.RowKit Go.Lib

abbrev BCb (xa ya za ta xb yb zb tb : Int) (o : Bool) (x y z t : Int) : Prop := ∀ w, Calls Tryd.prog 37 #[.agg #[.int .i32 xa, .int .i32 ya, .int .i32 za, .int .i32 ta], .agg #[.int .i32 xb, .int .i32 yb, .int .i32 zb, .int .i32 tb], .bool o] w fun e w' => e = .returned (.agg #[.int .i32 x, .int .i32 y, .int .i32 z, .int .i32 t]) ∧ Grown w w'
set_option maxRecDepth 100000 in
set_option maxHeartbeats 2000000 in
theorem pcb_in {xa ya za ta xb yb zb tb x y z t : Int} (h0 : max xa xb = x) (h1 : max ya yb = y) (h2 : min za zb = z) (h3 : min ta tb = t) : BCb xa ya za ta xb yb zb tb false x y z t := fun w => by
  have L1 := Lib.hid (pik_max h0)
  have L2 := Lib.hid (pik_max h1)
  have L3 := Lib.hid (pik_min h2)
  have L4 := Lib.hid (pik_min h3)
  clear h0 h1 h2 h3
  go_enter Tryd.func37, Tryd.ntmps37
  go_wp2_with fail
  generalize hW : World.alloc (World.alloc (World.alloc w _) _) _ = W1
  have p0 : W1.cell? ⟨w.heap.size, 0, none⟩ = some (.int .i32 xa) := by rw [← hW]; (repeat (first | rw [World.cell?_drew] | rw [World.cell?_alloc_past _ _ _ (by first | (simp; done) | (simp; omega))])); rw [World.cell?_alloc_at _ _ _ _ (by simp)]; rfl
  have p1 : W1.cell? ⟨w.heap.size, 1, none⟩ = some (.int .i32 ya) := by rw [← hW]; (repeat (first | rw [World.cell?_drew] | rw [World.cell?_alloc_past _ _ _ (by first | (simp; done) | (simp; omega))])); rw [World.cell?_alloc_at _ _ _ _ (by simp)]; rfl
  have p2 : W1.cell? ⟨w.heap.size, 2, none⟩ = some (.int .i32 za) := by rw [← hW]; (repeat (first | rw [World.cell?_drew] | rw [World.cell?_alloc_past _ _ _ (by first | (simp; done) | (simp; omega))])); rw [World.cell?_alloc_at _ _ _ _ (by simp)]; rfl
  have p3 : W1.cell? ⟨w.heap.size, 3, none⟩ = some (.int .i32 ta) := by rw [← hW]; (repeat (first | rw [World.cell?_drew] | rw [World.cell?_alloc_past _ _ _ (by first | (simp; done) | (simp; omega))])); rw [World.cell?_alloc_at _ _ _ _ (by simp)]; rfl
  have q0 : W1.cell? ⟨w.heap.size + 1, 0, none⟩ = some (.int .i32 xb) := by rw [← hW]; (repeat (first | rw [World.cell?_drew] | rw [World.cell?_alloc_past _ _ _ (by first | (simp; done) | (simp; omega))])); rw [World.cell?_alloc_at _ _ _ _ (by simp)]; rfl
  have q1 : W1.cell? ⟨w.heap.size + 1, 1, none⟩ = some (.int .i32 yb) := by rw [← hW]; (repeat (first | rw [World.cell?_drew] | rw [World.cell?_alloc_past _ _ _ (by first | (simp; done) | (simp; omega))])); rw [World.cell?_alloc_at _ _ _ _ (by simp)]; rfl
  have q2 : W1.cell? ⟨w.heap.size + 1, 2, none⟩ = some (.int .i32 zb) := by rw [← hW]; (repeat (first | rw [World.cell?_drew] | rw [World.cell?_alloc_past _ _ _ (by first | (simp; done) | (simp; omega))])); rw [World.cell?_alloc_at _ _ _ _ (by simp)]; rfl
  have q3 : W1.cell? ⟨w.heap.size + 1, 3, none⟩ = some (.int .i32 tb) := by rw [← hW]; (repeat (first | rw [World.cell?_drew] | rw [World.cell?_alloc_past _ _ _ (by first | (simp; done) | (simp; omega))])); rw [World.cell?_alloc_at _ _ _ _ (by simp)]; rfl
  have z0 : W1.cell? ⟨w.heap.size + 1 + 1, 0, none⟩ = some (.int .i32 0) := by rw [← hW]; (repeat (first | rw [World.cell?_drew] | rw [World.cell?_alloc_past _ _ _ (by first | (simp; done) | (simp; omega))])); rw [World.cell?_alloc_at _ _ _ _ (by simp)]; rfl
  have z1 : W1.cell? ⟨w.heap.size + 1 + 1, 1, none⟩ = some (.int .i32 0) := by rw [← hW]; (repeat (first | rw [World.cell?_drew] | rw [World.cell?_alloc_past _ _ _ (by first | (simp; done) | (simp; omega))])); rw [World.cell?_alloc_at _ _ _ _ (by simp)]; rfl
  have z2 : W1.cell? ⟨w.heap.size + 1 + 1, 2, none⟩ = some (.int .i32 0) := by rw [← hW]; (repeat (first | rw [World.cell?_drew] | rw [World.cell?_alloc_past _ _ _ (by first | (simp; done) | (simp; omega))])); rw [World.cell?_alloc_at _ _ _ _ (by simp)]; rfl
  have z3 : W1.cell? ⟨w.heap.size + 1 + 1, 3, none⟩ = some (.int .i32 0) := by rw [← hW]; (repeat (first | rw [World.cell?_drew] | rw [World.cell?_alloc_past _ _ _ (by first | (simp; done) | (simp; omega))])); rw [World.cell?_alloc_at _ _ _ _ (by simp)]; rfl
  have fz0 : W1.frozen? ⟨w.heap.size + 1 + 1, 0, none⟩ = false := by rw [← hW, World.frozen?_alloc_at _ _ _ _ (by simp)]
  have fz1 : W1.frozen? ⟨w.heap.size + 1 + 1, 1, none⟩ = false := by rw [← hW, World.frozen?_alloc_at _ _ _ _ (by simp)]
  have fz2 : W1.frozen? ⟨w.heap.size + 1 + 1, 2, none⟩ = false := by rw [← hW, World.frozen?_alloc_at _ _ _ _ (by simp)]
  have fz3 : W1.frozen? ⟨w.heap.size + 1 + 1, 3, none⟩ = false := by rw [← hW, World.frozen?_alloc_at _ _ _ _ (by simp)]
  have gg : Grown w W1 := by rw [← hW]; exact ((((Grown.refl _).alloc _ _).alloc _ _).alloc _ _)
  clear hW
  refine wp_region_still_tail 27 (by kernel_rfl) (by kernel_rfl) ?_
  simp only [List.take_succ_cons, List.take_zero, List.drop_succ_cons, List.drop_zero]
  repeat still_step
  still_call ((L1.out _).mono fun _ _ h => ⟨h.1, h.2.symm⟩)
  repeat still_step
  still_call ((L2.out _).mono fun _ _ h => ⟨h.1, h.2.symm⟩)
  repeat still_step
  still_call ((L3.out _).mono fun _ _ h => ⟨h.1, h.2.symm⟩)
  repeat still_step
  still_call ((L4.out _).mono fun _ _ h => ⟨h.1, h.2.symm⟩)
  repeat still_step
  try refine wpStill_nil ?_
  go_wp2_with fail
  exact bodyPost_ret (v := .agg #[.int .i32 x, .int .i32 y, .int .i32 z, .int .i32 t]) (by simp [results, Tryd.results37, go_sem, z0, z1, z2, z3]) rfl ⟨rfl, (((gg.drew.setCell (by dsimp only; omega) _).setCell (by dsimp only; omega) _).setCell (by dsimp only; omega) _).setCell (by dsimp only; omega) _⟩
set_option maxRecDepth 100000 in
set_option maxHeartbeats 2000000 in
theorem pcb_out {xa ya za ta xb yb zb tb x y z t : Int} (h0 : min xa xb = x) (h1 : min ya yb = y) (h2 : max za zb = z) (h3 : max ta tb = t) : BCb xa ya za ta xb yb zb tb true x y z t := fun w => by
  have L1 := Lib.hid (pik_min h0)
  have L2 := Lib.hid (pik_min h1)
  have L3 := Lib.hid (pik_max h2)
  have L4 := Lib.hid (pik_max h3)
  clear h0 h1 h2 h3
  go_enter Tryd.func37, Tryd.ntmps37
  go_wp2_with fail
  generalize hW : World.alloc (World.alloc (World.alloc w _) _) _ = W1
  have p0 : W1.cell? ⟨w.heap.size, 0, none⟩ = some (.int .i32 xa) := by rw [← hW]; (repeat (first | rw [World.cell?_drew] | rw [World.cell?_alloc_past _ _ _ (by first | (simp; done) | (simp; omega))])); rw [World.cell?_alloc_at _ _ _ _ (by simp)]; rfl
  have p1 : W1.cell? ⟨w.heap.size, 1, none⟩ = some (.int .i32 ya) := by rw [← hW]; (repeat (first | rw [World.cell?_drew] | rw [World.cell?_alloc_past _ _ _ (by first | (simp; done) | (simp; omega))])); rw [World.cell?_alloc_at _ _ _ _ (by simp)]; rfl
  have p2 : W1.cell? ⟨w.heap.size, 2, none⟩ = some (.int .i32 za) := by rw [← hW]; (repeat (first | rw [World.cell?_drew] | rw [World.cell?_alloc_past _ _ _ (by first | (simp; done) | (simp; omega))])); rw [World.cell?_alloc_at _ _ _ _ (by simp)]; rfl
  have p3 : W1.cell? ⟨w.heap.size, 3, none⟩ = some (.int .i32 ta) := by rw [← hW]; (repeat (first | rw [World.cell?_drew] | rw [World.cell?_alloc_past _ _ _ (by first | (simp; done) | (simp; omega))])); rw [World.cell?_alloc_at _ _ _ _ (by simp)]; rfl
  have q0 : W1.cell? ⟨w.heap.size + 1, 0, none⟩ = some (.int .i32 xb) := by rw [← hW]; (repeat (first | rw [World.cell?_drew] | rw [World.cell?_alloc_past _ _ _ (by first | (simp; done) | (simp; omega))])); rw [World.cell?_alloc_at _ _ _ _ (by simp)]; rfl
  have q1 : W1.cell? ⟨w.heap.size + 1, 1, none⟩ = some (.int .i32 yb) := by rw [← hW]; (repeat (first | rw [World.cell?_drew] | rw [World.cell?_alloc_past _ _ _ (by first | (simp; done) | (simp; omega))])); rw [World.cell?_alloc_at _ _ _ _ (by simp)]; rfl
  have q2 : W1.cell? ⟨w.heap.size + 1, 2, none⟩ = some (.int .i32 zb) := by rw [← hW]; (repeat (first | rw [World.cell?_drew] | rw [World.cell?_alloc_past _ _ _ (by first | (simp; done) | (simp; omega))])); rw [World.cell?_alloc_at _ _ _ _ (by simp)]; rfl
  have q3 : W1.cell? ⟨w.heap.size + 1, 3, none⟩ = some (.int .i32 tb) := by rw [← hW]; (repeat (first | rw [World.cell?_drew] | rw [World.cell?_alloc_past _ _ _ (by first | (simp; done) | (simp; omega))])); rw [World.cell?_alloc_at _ _ _ _ (by simp)]; rfl
  have z0 : W1.cell? ⟨w.heap.size + 1 + 1, 0, none⟩ = some (.int .i32 0) := by rw [← hW]; (repeat (first | rw [World.cell?_drew] | rw [World.cell?_alloc_past _ _ _ (by first | (simp; done) | (simp; omega))])); rw [World.cell?_alloc_at _ _ _ _ (by simp)]; rfl
  have z1 : W1.cell? ⟨w.heap.size + 1 + 1, 1, none⟩ = some (.int .i32 0) := by rw [← hW]; (repeat (first | rw [World.cell?_drew] | rw [World.cell?_alloc_past _ _ _ (by first | (simp; done) | (simp; omega))])); rw [World.cell?_alloc_at _ _ _ _ (by simp)]; rfl
  have z2 : W1.cell? ⟨w.heap.size + 1 + 1, 2, none⟩ = some (.int .i32 0) := by rw [← hW]; (repeat (first | rw [World.cell?_drew] | rw [World.cell?_alloc_past _ _ _ (by first | (simp; done) | (simp; omega))])); rw [World.cell?_alloc_at _ _ _ _ (by simp)]; rfl
  have z3 : W1.cell? ⟨w.heap.size + 1 + 1, 3, none⟩ = some (.int .i32 0) := by rw [← hW]; (repeat (first | rw [World.cell?_drew] | rw [World.cell?_alloc_past _ _ _ (by first | (simp; done) | (simp; omega))])); rw [World.cell?_alloc_at _ _ _ _ (by simp)]; rfl
  have fz0 : W1.frozen? ⟨w.heap.size + 1 + 1, 0, none⟩ = false := by rw [← hW, World.frozen?_alloc_at _ _ _ _ (by simp)]
  have fz1 : W1.frozen? ⟨w.heap.size + 1 + 1, 1, none⟩ = false := by rw [← hW, World.frozen?_alloc_at _ _ _ _ (by simp)]
  have fz2 : W1.frozen? ⟨w.heap.size + 1 + 1, 2, none⟩ = false := by rw [← hW, World.frozen?_alloc_at _ _ _ _ (by simp)]
  have fz3 : W1.frozen? ⟨w.heap.size + 1 + 1, 3, none⟩ = false := by rw [← hW, World.frozen?_alloc_at _ _ _ _ (by simp)]
  have gg : Grown w W1 := by rw [← hW]; exact ((((Grown.refl _).alloc _ _).alloc _ _).alloc _ _)
  clear hW
  refine wp_region_still_tail 27 (by kernel_rfl) (by kernel_rfl) ?_
  simp only [List.take_succ_cons, List.take_zero, List.drop_succ_cons, List.drop_zero]
  repeat still_step
  still_call ((L1.out _).mono fun _ _ h => ⟨h.1, h.2.symm⟩)
  repeat still_step
  still_call ((L2.out _).mono fun _ _ h => ⟨h.1, h.2.symm⟩)
  repeat still_step
  still_call ((L3.out _).mono fun _ _ h => ⟨h.1, h.2.symm⟩)
  repeat still_step
  still_call ((L4.out _).mono fun _ _ h => ⟨h.1, h.2.symm⟩)
  repeat still_step
  try refine wpStill_nil ?_
  go_wp2_with fail
  exact bodyPost_ret (v := .agg #[.int .i32 x, .int .i32 y, .int .i32 z, .int .i32 t]) (by simp [results, Tryd.results37, go_sem, z0, z1, z2, z3]) rfl ⟨rfl, (((gg.drew.setCell (by dsimp only; omega) _).setCell (by dsimp only; omega) _).setCell (by dsimp only; omega) _).setCell (by dsimp only; omega) _⟩
abbrev BIn (xa ya za ta xb yb zb tb x y z t : Int) : Prop := ∀ w, Calls Tryd.prog 32 #[.agg #[.int .i32 xa, .int .i32 ya, .int .i32 za, .int .i32 ta], .agg #[.int .i32 xb, .int .i32 yb, .int .i32 zb, .int .i32 tb]] w fun e w' => e = .returned (.agg #[.int .i32 x, .int .i32 y, .int .i32 z, .int .i32 t]) ∧ Grown w w'
set_option maxRecDepth 100000 in
set_option maxHeartbeats 1000000 in
theorem pbin {xa ya za ta xb yb zb tb x y z t : Int} (h0 : max xa xb = x) (h1 : max ya yb = y) (h2 : min za zb = z) (h3 : min ta tb = t) : BIn xa ya za ta xb yb zb tb x y z t := fun w => by
  have L := Lib.hid (pcb_in h0 h1 h2 h3)
  clear h0 h1 h2 h3
  go_enter Tryd.func32, Tryd.ntmps32
  go_wp2_with (first
    | ((with_reducible refine (L.out _).mono ?_); rintro e w1 ⟨rfl, g1⟩
       have z0 := kept_cell g1 (b := w.heap.size + 1 + 1) (o := 0) (v := .int .i32 0) (by (repeat (first | rw [World.cell?_drew] | rw [World.cell?_alloc_past _ _ _ (by first | (simp; done) | (simp; omega))])); rw [World.cell?_alloc_at _ _ _ _ (by simp)]; rfl)
       have z1 := kept_cell g1 (b := w.heap.size + 1 + 1) (o := 1) (v := .int .i32 0) (by (repeat (first | rw [World.cell?_drew] | rw [World.cell?_alloc_past _ _ _ (by first | (simp; done) | (simp; omega))])); rw [World.cell?_alloc_at _ _ _ _ (by simp)]; rfl)
       have z2 := kept_cell g1 (b := w.heap.size + 1 + 1) (o := 2) (v := .int .i32 0) (by (repeat (first | rw [World.cell?_drew] | rw [World.cell?_alloc_past _ _ _ (by first | (simp; done) | (simp; omega))])); rw [World.cell?_alloc_at _ _ _ _ (by simp)]; rfl)
       have z3 := kept_cell g1 (b := w.heap.size + 1 + 1) (o := 3) (v := .int .i32 0) (by (repeat (first | rw [World.cell?_drew] | rw [World.cell?_alloc_past _ _ _ (by first | (simp; done) | (simp; omega))])); rw [World.cell?_alloc_at _ _ _ _ (by simp)]; rfl)
       have fz0 := kept_frozen g1 (b := w.heap.size + 1 + 1) (o := 0) (by (repeat (first | rw [World.frozen?_drew] | rw [World.frozen?_alloc_past _ _ _ (by first | (simp; done) | (simp; omega))])); rw [World.frozen?_alloc_at _ _ _ _ (by simp)])
       have fz1 := kept_frozen g1 (b := w.heap.size + 1 + 1) (o := 1) (by (repeat (first | rw [World.frozen?_drew] | rw [World.frozen?_alloc_past _ _ _ (by first | (simp; done) | (simp; omega))])); rw [World.frozen?_alloc_at _ _ _ _ (by simp)])
       have fz2 := kept_frozen g1 (b := w.heap.size + 1 + 1) (o := 2) (by (repeat (first | rw [World.frozen?_drew] | rw [World.frozen?_alloc_past _ _ _ (by first | (simp; done) | (simp; omega))])); rw [World.frozen?_alloc_at _ _ _ _ (by simp)])
       have fz3 := kept_frozen g1 (b := w.heap.size + 1 + 1) (o := 3) (by (repeat (first | rw [World.frozen?_drew] | rw [World.frozen?_alloc_past _ _ _ (by first | (simp; done) | (simp; omega))])); rw [World.frozen?_alloc_at _ _ _ _ (by simp)])
       have gg := grown_trans ((((Grown.refl _).alloc _ _).alloc _ _).alloc _ _) g1))
  exact bodyPost_ret (v := .agg #[.int .i32 x, .int .i32 y, .int .i32 z, .int .i32 t]) (by simp [results, Tryd.results32, go_sem, z0, z1, z2, z3]) rfl ⟨rfl, (((gg.setCell (by dsimp only; omega) _).setCell (by dsimp only; omega) _).setCell (by dsimp only; omega) _).setCell (by dsimp only; omega) _⟩
theorem pov (xa ya za ta xb yb zb tb : Int) (q : Bool) (hq : ovlB xa ya za ta xb yb zb tb = q) : BOv xa ya za ta xb yb zb tb q := fun w => by
  have M1 := Lib.hid (pbin (rfl : max xa xb = _) (rfl : max ya yb = _) (rfl : min za zb = _) (rfl : min ta tb = _))
  have E1 : Hid (BEm (max xa xb) (max ya yb) (min za zb) (min ta tb) (!q)) := Lib.hid (by
    refine pem _ _ _ _ _ ?_
    subst hq
    unfold empB ovlB
    by_cases h : min za zb < max xa xb ∨ min ta tb < max ya yb
    · rw [decide_eq_true h, decide_eq_false (by omega)]; rfl
    · rw [decide_eq_false h, decide_eq_true (by omega)]; rfl)
  clear hq
  generalize max xa xb = u0 at M1 E1
  generalize max ya yb = u1 at M1 E1
  generalize min za zb = u2 at M1 E1
  generalize min ta tb = u3 at M1 E1
  go_enter Tryd.func20, Tryd.ntmps20
  go_wp2_with (first
    | ((with_reducible refine (M1.out _).mono ?_); rintro e w1 ⟨rfl, g1⟩
       have gg := grown_trans (((Grown.refl _).alloc _ _).alloc _ _) g1)
    | ((with_reducible refine (E1.out _).mono ?_); rintro e w2 ⟨rfl, g2⟩
       replace gg := grown_trans gg g2))
  go_ret
  exact ⟨by simp, gg⟩
end Go.Proofs.YtnbncdgadahhbaaDoor
