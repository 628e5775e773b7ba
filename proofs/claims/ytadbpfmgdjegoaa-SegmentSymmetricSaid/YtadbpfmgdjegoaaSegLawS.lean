/-
  Package segment: the law SegmentSymmetric.
-/
import Derived.Test.YtadbpfmgdjegoaaSegCon
import Derived.Deep.DeepCutAuto
import Derived.Deep.QuietTactic
import Derived.BigQuiet
namespace Go.Proofs.Ytadbpfmgdjegoaa
open Go.RowKit Go.Lib

set_option maxRecDepth 100000 in
set_option maxHeartbeats 2000000 in
theorem ssl_bad (AW : Hid SAwake) (px py qx qy mx my nx ny : Int) (hr : sgB px py qx qy mx my nx ny = false) (w : World) : Calls Try.prog 5 #[.agg #[.int .i32 px, .int .i32 py], .agg #[.int .i32 qx, .int .i32 qy], .agg #[.int .i32 mx, .int .i32 my], .agg #[.int .i32 nx, .int .i32 ny]] w fun e w' => e = .returned (.bool true) ∧ Kep w.heap.size w w' := by
  have RR := Lib.hid (rr4 px py qx qy mx my nx ny false hr)
  clear hr
  go_enter Try.func5, Try.ntmps5
  go_wp2_with (first
    | ((with_reducible refine (AW.out _).mono ?_); rintro e w1 ⟨rfl, g1⟩
       first
         | (replace gg := kep_next gg g1)
         | (have p0 := Kep.all g1 (a := ⟨w.heap.size, 0, none⟩) (v := .int .i32 px) (by (repeat (first | rw [World.cell?_drew] | rw [World.cell?_alloc_past _ _ _ (by first | (simp; done) | (simp; omega))])); rw [World.cell?_alloc_at _ _ _ _ (by simp)]; rfl)
            have p1 := Kep.all g1 (a := ⟨w.heap.size, 1, none⟩) (v := .int .i32 py) (by (repeat (first | rw [World.cell?_drew] | rw [World.cell?_alloc_past _ _ _ (by first | (simp; done) | (simp; omega))])); rw [World.cell?_alloc_at _ _ _ _ (by simp)]; rfl)
            have q0 := Kep.all g1 (a := ⟨w.heap.size + 1, 0, none⟩) (v := .int .i32 qx) (by (repeat (first | rw [World.cell?_drew] | rw [World.cell?_alloc_past _ _ _ (by first | (simp; done) | (simp; omega))])); rw [World.cell?_alloc_at _ _ _ _ (by simp)]; rfl)
            have q1 := Kep.all g1 (a := ⟨w.heap.size + 1, 1, none⟩) (v := .int .i32 qy) (by (repeat (first | rw [World.cell?_drew] | rw [World.cell?_alloc_past _ _ _ (by first | (simp; done) | (simp; omega))])); rw [World.cell?_alloc_at _ _ _ _ (by simp)]; rfl)
            have m0 := Kep.all g1 (a := ⟨w.heap.size + 1 + 1, 0, none⟩) (v := .int .i32 mx) (by (repeat (first | rw [World.cell?_drew] | rw [World.cell?_alloc_past _ _ _ (by first | (simp; done) | (simp; omega))])); rw [World.cell?_alloc_at _ _ _ _ (by simp)]; rfl)
            have m1 := Kep.all g1 (a := ⟨w.heap.size + 1 + 1, 1, none⟩) (v := .int .i32 my) (by (repeat (first | rw [World.cell?_drew] | rw [World.cell?_alloc_past _ _ _ (by first | (simp; done) | (simp; omega))])); rw [World.cell?_alloc_at _ _ _ _ (by simp)]; rfl)
            have n0 := Kep.all g1 (a := ⟨w.heap.size + 1 + 1 + 1, 0, none⟩) (v := .int .i32 nx) (by (repeat (first | rw [World.cell?_drew] | rw [World.cell?_alloc_past _ _ _ (by first | (simp; done) | (simp; omega))])); rw [World.cell?_alloc_at _ _ _ _ (by simp)]; rfl)
            have n1 := Kep.all g1 (a := ⟨w.heap.size + 1 + 1 + 1, 1, none⟩) (v := .int .i32 ny) (by (repeat (first | rw [World.cell?_drew] | rw [World.cell?_alloc_past _ _ _ (by first | (simp; done) | (simp; omega))])); rw [World.cell?_alloc_at _ _ _ _ (by simp)]; rfl)
            have gg := kep_next (kep_more (kep_more (kep_more (kep_more (Kep.refl _ _) _) _) _) _) g1
            have zp_w1 : w.heap.size < w1.heap.size := World.block_lt_of_cell? _ _ p0
            have zq_w1 : w.heap.size + 1 < w1.heap.size := World.block_lt_of_cell? _ _ q0
            have zm_w1 : w.heap.size + 1 + 1 < w1.heap.size := World.block_lt_of_cell? _ _ m0
            have zn_w1 : w.heap.size + 1 + 1 + 1 < w1.heap.size := World.block_lt_of_cell? _ _ n0))
    | ((with_reducible refine (RR.out _).mono ?_); rintro e w2 ⟨rfl, g2⟩
       replace p0 := Kep.all g2 (a := ⟨w.heap.size, 0, none⟩) (v := .int .i32 px) p0
       replace p1 := Kep.all g2 (a := ⟨w.heap.size, 1, none⟩) (v := .int .i32 py) p1
       replace q0 := Kep.all g2 (a := ⟨w.heap.size + 1, 0, none⟩) (v := .int .i32 qx) q0
       replace q1 := Kep.all g2 (a := ⟨w.heap.size + 1, 1, none⟩) (v := .int .i32 qy) q1
       replace m0 := Kep.all g2 (a := ⟨w.heap.size + 1 + 1, 0, none⟩) (v := .int .i32 mx) m0
       replace m1 := Kep.all g2 (a := ⟨w.heap.size + 1 + 1, 1, none⟩) (v := .int .i32 my) m1
       replace n0 := Kep.all g2 (a := ⟨w.heap.size + 1 + 1 + 1, 0, none⟩) (v := .int .i32 nx) n0
       replace n1 := Kep.all g2 (a := ⟨w.heap.size + 1 + 1 + 1, 1, none⟩) (v := .int .i32 ny) n1
       replace gg := kep_next gg g2
       have zp_w2 : w.heap.size < w2.heap.size := World.block_lt_of_cell? _ _ p0
       have zq_w2 : w.heap.size + 1 < w2.heap.size := World.block_lt_of_cell? _ _ q0
       have zm_w2 : w.heap.size + 1 + 1 < w2.heap.size := World.block_lt_of_cell? _ _ m0
       have zn_w2 : w.heap.size + 1 + 1 + 1 < w2.heap.size := World.block_lt_of_cell? _ _ n0))
  go_ret
  exact ⟨rfl, gg⟩
set_option maxRecDepth 100000 in
set_option maxHeartbeats 4000000 in
theorem ssl_ok (O : SOps) (AW : Hid SAwake) (px py qx qy mx my nx ny : Int) (hr : sgB px py qx qy mx my nx ny = true) (w : World) : Calls Try.prog 5 #[.agg #[.int .i32 px, .int .i32 py], .agg #[.int .i32 qx, .int .i32 qy], .agg #[.int .i32 mx, .int .i32 my], .agg #[.int .i32 nx, .int .i32 ny]] w fun e w' => e = .returned (.bool true) ∧ Kep w.heap.size w w' := by
  have RR := Lib.hid (rr4 px py qx qy mx my nx ny true hr)
  have hp := chs_pts px py mx my
  have C1 := O.chosen (sg_pts hr) rfl
  rw [hp.1, hp.2.1, hp.2.2.1, hp.2.2.2] at C1
  replace C1 := Lib.hid C1
  obtain ⟨t, ht⟩ : ∃ t, t = (chs px py qx qy mx my nx ny).t := ⟨_, rfl⟩
  have C2 := Lib.hid (O.dist hr ht.symm)
  have C3 := Lib.hid (O.dist (t := t) (sg_swap hr) (by rw [ht]; exact (chs_sym _ _ _ _ _ _ _ _).symm))
  have C4 := Lib.hid (O.dist (sg_same hr) (chs_self px py qx qy))
  have v1 := fun w => vec_cmp px py px py true (by simp) w
  have v2 := fun w => vec_cmp mx my mx my true (by simp) w
  have et : (t == t) = true := by simp
  clear hr hp ht
  go_enter Try.func5, Try.ntmps5
  go_wp2_with (first
    | ((with_reducible refine (AW.out _).mono ?_); rintro e w1 ⟨rfl, g1⟩
       have p0 := Kep.all g1 (a := ⟨w.heap.size, 0, none⟩) (v := .int .i32 px) (by (repeat (first | rw [World.cell?_drew] | rw [World.cell?_alloc_past _ _ _ (by first | (simp; done) | (simp; omega))])); rw [World.cell?_alloc_at _ _ _ _ (by simp)]; rfl)
       have p1 := Kep.all g1 (a := ⟨w.heap.size, 1, none⟩) (v := .int .i32 py) (by (repeat (first | rw [World.cell?_drew] | rw [World.cell?_alloc_past _ _ _ (by first | (simp; done) | (simp; omega))])); rw [World.cell?_alloc_at _ _ _ _ (by simp)]; rfl)
       have q0 := Kep.all g1 (a := ⟨w.heap.size + 1, 0, none⟩) (v := .int .i32 qx) (by (repeat (first | rw [World.cell?_drew] | rw [World.cell?_alloc_past _ _ _ (by first | (simp; done) | (simp; omega))])); rw [World.cell?_alloc_at _ _ _ _ (by simp)]; rfl)
       have q1 := Kep.all g1 (a := ⟨w.heap.size + 1, 1, none⟩) (v := .int .i32 qy) (by (repeat (first | rw [World.cell?_drew] | rw [World.cell?_alloc_past _ _ _ (by first | (simp; done) | (simp; omega))])); rw [World.cell?_alloc_at _ _ _ _ (by simp)]; rfl)
       have m0 := Kep.all g1 (a := ⟨w.heap.size + 1 + 1, 0, none⟩) (v := .int .i32 mx) (by (repeat (first | rw [World.cell?_drew] | rw [World.cell?_alloc_past _ _ _ (by first | (simp; done) | (simp; omega))])); rw [World.cell?_alloc_at _ _ _ _ (by simp)]; rfl)
       have m1 := Kep.all g1 (a := ⟨w.heap.size + 1 + 1, 1, none⟩) (v := .int .i32 my) (by (repeat (first | rw [World.cell?_drew] | rw [World.cell?_alloc_past _ _ _ (by first | (simp; done) | (simp; omega))])); rw [World.cell?_alloc_at _ _ _ _ (by simp)]; rfl)
       have n0 := Kep.all g1 (a := ⟨w.heap.size + 1 + 1 + 1, 0, none⟩) (v := .int .i32 nx) (by (repeat (first | rw [World.cell?_drew] | rw [World.cell?_alloc_past _ _ _ (by first | (simp; done) | (simp; omega))])); rw [World.cell?_alloc_at _ _ _ _ (by simp)]; rfl)
       have n1 := Kep.all g1 (a := ⟨w.heap.size + 1 + 1 + 1, 1, none⟩) (v := .int .i32 ny) (by (repeat (first | rw [World.cell?_drew] | rw [World.cell?_alloc_past _ _ _ (by first | (simp; done) | (simp; omega))])); rw [World.cell?_alloc_at _ _ _ _ (by simp)]; rfl)
       have gg := kep_next (kep_more (kep_more (kep_more (kep_more (Kep.refl _ _) _) _) _) _) g1
       have zp_w1 : w.heap.size < w1.heap.size := World.block_lt_of_cell? _ _ p0
       have zq_w1 : w.heap.size + 1 < w1.heap.size := World.block_lt_of_cell? _ _ q0
       have zm_w1 : w.heap.size + 1 + 1 < w1.heap.size := World.block_lt_of_cell? _ _ m0
       have zn_w1 : w.heap.size + 1 + 1 + 1 < w1.heap.size := World.block_lt_of_cell? _ _ n0)
    | ((with_reducible refine (RR.out _).mono ?_); rintro e w2 ⟨rfl, g2⟩
       replace p0 := Kep.all g2 (a := ⟨w.heap.size, 0, none⟩) (v := .int .i32 px) p0
       replace p1 := Kep.all g2 (a := ⟨w.heap.size, 1, none⟩) (v := .int .i32 py) p1
       replace q0 := Kep.all g2 (a := ⟨w.heap.size + 1, 0, none⟩) (v := .int .i32 qx) q0
       replace q1 := Kep.all g2 (a := ⟨w.heap.size + 1, 1, none⟩) (v := .int .i32 qy) q1
       replace m0 := Kep.all g2 (a := ⟨w.heap.size + 1 + 1, 0, none⟩) (v := .int .i32 mx) m0
       replace m1 := Kep.all g2 (a := ⟨w.heap.size + 1 + 1, 1, none⟩) (v := .int .i32 my) m1
       replace n0 := Kep.all g2 (a := ⟨w.heap.size + 1 + 1 + 1, 0, none⟩) (v := .int .i32 nx) n0
       replace n1 := Kep.all g2 (a := ⟨w.heap.size + 1 + 1 + 1, 1, none⟩) (v := .int .i32 ny) n1
       replace gg := kep_next gg g2
       have zp_w2 : w.heap.size < w2.heap.size := World.block_lt_of_cell? _ _ p0
       have zq_w2 : w.heap.size + 1 < w2.heap.size := World.block_lt_of_cell? _ _ q0
       have zm_w2 : w.heap.size + 1 + 1 < w2.heap.size := World.block_lt_of_cell? _ _ m0
       have zn_w2 : w.heap.size + 1 + 1 + 1 < w2.heap.size := World.block_lt_of_cell? _ _ n0)
    | ((with_reducible refine (C1.out _).mono ?_); rintro e w3 ⟨rfl, g3⟩
       replace p0 := Kep.all g3 (a := ⟨w.heap.size, 0, none⟩) (v := .int .i32 px) p0
       replace p1 := Kep.all g3 (a := ⟨w.heap.size, 1, none⟩) (v := .int .i32 py) p1
       replace q0 := Kep.all g3 (a := ⟨w.heap.size + 1, 0, none⟩) (v := .int .i32 qx) q0
       replace q1 := Kep.all g3 (a := ⟨w.heap.size + 1, 1, none⟩) (v := .int .i32 qy) q1
       replace m0 := Kep.all g3 (a := ⟨w.heap.size + 1 + 1, 0, none⟩) (v := .int .i32 mx) m0
       replace m1 := Kep.all g3 (a := ⟨w.heap.size + 1 + 1, 1, none⟩) (v := .int .i32 my) m1
       replace n0 := Kep.all g3 (a := ⟨w.heap.size + 1 + 1 + 1, 0, none⟩) (v := .int .i32 nx) n0
       replace n1 := Kep.all g3 (a := ⟨w.heap.size + 1 + 1 + 1, 1, none⟩) (v := .int .i32 ny) n1
       replace gg := kep_next gg g3
       have zp_w3 : w.heap.size < w3.heap.size := World.block_lt_of_cell? _ _ p0
       have zq_w3 : w.heap.size + 1 < w3.heap.size := World.block_lt_of_cell? _ _ q0
       have zm_w3 : w.heap.size + 1 + 1 < w3.heap.size := World.block_lt_of_cell? _ _ m0
       have zn_w3 : w.heap.size + 1 + 1 + 1 < w3.heap.size := World.block_lt_of_cell? _ _ n0))
  generalize hW : World.alloc (World.alloc w3 _) _ = W5
  replace p0 : W5.cell? ⟨w.heap.size, 0, none⟩ = some (.int .i32 px) := by rw [← hW]; exact (Kep.all (kep_more (kep_more (Kep.refl _ _) _) _) p0)
  replace p1 : W5.cell? ⟨w.heap.size, 1, none⟩ = some (.int .i32 py) := by rw [← hW]; exact (Kep.all (kep_more (kep_more (Kep.refl _ _) _) _) p1)
  replace q0 : W5.cell? ⟨w.heap.size + 1, 0, none⟩ = some (.int .i32 qx) := by rw [← hW]; exact (Kep.all (kep_more (kep_more (Kep.refl _ _) _) _) q0)
  replace q1 : W5.cell? ⟨w.heap.size + 1, 1, none⟩ = some (.int .i32 qy) := by rw [← hW]; exact (Kep.all (kep_more (kep_more (Kep.refl _ _) _) _) q1)
  replace m0 : W5.cell? ⟨w.heap.size + 1 + 1, 0, none⟩ = some (.int .i32 mx) := by rw [← hW]; exact (Kep.all (kep_more (kep_more (Kep.refl _ _) _) _) m0)
  replace m1 : W5.cell? ⟨w.heap.size + 1 + 1, 1, none⟩ = some (.int .i32 my) := by rw [← hW]; exact (Kep.all (kep_more (kep_more (Kep.refl _ _) _) _) m1)
  replace n0 : W5.cell? ⟨w.heap.size + 1 + 1 + 1, 0, none⟩ = some (.int .i32 nx) := by rw [← hW]; exact (Kep.all (kep_more (kep_more (Kep.refl _ _) _) _) n0)
  replace n1 : W5.cell? ⟨w.heap.size + 1 + 1 + 1, 1, none⟩ = some (.int .i32 ny) := by rw [← hW]; exact (Kep.all (kep_more (kep_more (Kep.refl _ _) _) _) n1)
  have a0 : W5.cell? ⟨w3.heap.size, 0, none⟩ = some (.int .i32 px) := by
    rw [← hW]
    (repeat (first | rw [World.cell?_drew] | rw [World.cell?_alloc_past _ _ _ (by first | (simp; done) | (simp; omega))])); rw [World.cell?_alloc_at _ _ _ _ (by simp)]; rfl
  have a1 : W5.cell? ⟨w3.heap.size, 1, none⟩ = some (.int .i32 py) := by
    rw [← hW]
    (repeat (first | rw [World.cell?_drew] | rw [World.cell?_alloc_past _ _ _ (by first | (simp; done) | (simp; omega))])); rw [World.cell?_alloc_at _ _ _ _ (by simp)]; rfl
  have b0 : W5.cell? ⟨w3.heap.size + 1, 0, none⟩ = some (.int .i32 mx) := by
    rw [← hW]
    (repeat (first | rw [World.cell?_drew] | rw [World.cell?_alloc_past _ _ _ (by first | (simp; done) | (simp; omega))])); rw [World.cell?_alloc_at _ _ _ _ (by simp)]; rfl
  have b1 : W5.cell? ⟨w3.heap.size + 1, 1, none⟩ = some (.int .i32 my) := by
    rw [← hW]
    (repeat (first | rw [World.cell?_drew] | rw [World.cell?_alloc_past _ _ _ (by first | (simp; done) | (simp; omega))])); rw [World.cell?_alloc_at _ _ _ _ (by simp)]; rfl
  replace gg : Kep w.heap.size w W5 := by rw [← hW]; exact (kep_more (kep_more gg _) _)
  clear hW
  have zp_W5 : w.heap.size < W5.heap.size := World.block_lt_of_cell? _ _ p0
  have zq_W5 : w.heap.size + 1 < W5.heap.size := World.block_lt_of_cell? _ _ q0
  have zm_W5 : w.heap.size + 1 + 1 < W5.heap.size := World.block_lt_of_cell? _ _ m0
  have zn_W5 : w.heap.size + 1 + 1 + 1 < W5.heap.size := World.block_lt_of_cell? _ _ n0
  have za_W5 : w3.heap.size < W5.heap.size := World.block_lt_of_cell? _ _ a0
  have zb_W5 : w3.heap.size + 1 < W5.heap.size := World.block_lt_of_cell? _ _ b0
  refine wp_region_noPanic ?_
  refine wp_region_held_drew (S := (fun w' => w'.cell? ⟨w.heap.size, 0, none⟩ = some (.int .i32 px) ∧ w'.cell? ⟨w.heap.size, 1, none⟩ = some (.int .i32 py) ∧ w'.cell? ⟨w.heap.size + 1, 0, none⟩ = some (.int .i32 qx) ∧ w'.cell? ⟨w.heap.size + 1, 1, none⟩ = some (.int .i32 qy) ∧ w'.cell? ⟨w.heap.size + 1 + 1, 0, none⟩ = some (.int .i32 mx) ∧ w'.cell? ⟨w.heap.size + 1 + 1, 1, none⟩ = some (.int .i32 my) ∧ w'.cell? ⟨w.heap.size + 1 + 1 + 1, 0, none⟩ = some (.int .i32 nx) ∧ w'.cell? ⟨w.heap.size + 1 + 1 + 1, 1, none⟩ = some (.int .i32 ny) ∧ w'.cell? ⟨w3.heap.size, 0, none⟩ = some (.int .i32 px) ∧ w'.cell? ⟨w3.heap.size, 1, none⟩ = some (.int .i32 py) ∧ w'.cell? ⟨w3.heap.size + 1, 0, none⟩ = some (.int .i32 mx) ∧ w'.cell? ⟨w3.heap.size + 1, 1, none⟩ = some (.int .i32 my) ∧ Kep w.heap.size w w')) (by kernel_rfl) (⟨by rw [World.cell?_drew]; exact p0, by rw [World.cell?_drew]; exact p1, by rw [World.cell?_drew]; exact q0, by rw [World.cell?_drew]; exact q1, by rw [World.cell?_drew]; exact m0, by rw [World.cell?_drew]; exact m1, by rw [World.cell?_drew]; exact n0, by rw [World.cell?_drew]; exact n1, by rw [World.cell?_drew]; exact a0, by rw [World.cell?_drew]; exact a1, by rw [World.cell?_drew]; exact b0, by rw [World.cell?_drew]; exact b1, kep_drew gg⟩) (fun hH => ?_)
  refine wpAnyH_take (i := 0) (oi := { dst := some 30, op := Op.load 23 (Operand.tmp 4), type := _, pos := _, after := _, guard := none }) (v := ?_) rfl (by kernel_rfl) (by kernel_rfl) (by kernel_rfl) (fun _ _ _ h => h) (Or.inl ⟨by rfl, ?_⟩) hH ?_
  rotate_left
  · (intro w hSw; (try dsimp only at hSw); go_simp; (try with_reducible rfl))
  try simp only [Act.put, List.setIfInBounds_toArray, List.set_cons_zero, List.set_cons_succ]
  refine wpAnyH_take (i := 1) (oi := { dst := some 31, op := Op.load 23 (Operand.tmp 5), type := _, pos := _, after := _, guard := none }) (v := ?_) rfl (by kernel_rfl) (by kernel_rfl) (by kernel_rfl) (fun _ _ _ h => h) (Or.inl ⟨by rfl, ?_⟩) hH ?_
  rotate_left
  · (intro w hSw; (try dsimp only at hSw); go_simp; (try with_reducible rfl))
  try simp only [Act.put, List.setIfInBounds_toArray, List.set_cons_zero, List.set_cons_succ]
  refine wpAnyH_take (i := 2) (oi := { dst := some 32, op := Op.load 23 (Operand.tmp 6), type := _, pos := _, after := _, guard := none }) (v := ?_) rfl (by kernel_rfl) (by kernel_rfl) (by kernel_rfl) (fun _ _ _ h => h) (Or.inl ⟨by rfl, ?_⟩) hH ?_
  rotate_left
  · (intro w hSw; (try dsimp only at hSw); go_simp; (try with_reducible rfl))
  try simp only [Act.put, List.setIfInBounds_toArray, List.set_cons_zero, List.set_cons_succ]
  refine wpAnyH_take (i := 3) (oi := { dst := some 33, op := Op.load 23 (Operand.tmp 7), type := _, pos := _, after := _, guard := none }) (v := ?_) rfl (by kernel_rfl) (by kernel_rfl) (by kernel_rfl) (fun _ _ _ h => h) (Or.inl ⟨by rfl, ?_⟩) hH ?_
  rotate_left
  · (intro w hSw; (try dsimp only at hSw); go_simp; (try with_reducible rfl))
  try simp only [Act.put, List.setIfInBounds_toArray, List.set_cons_zero, List.set_cons_succ]
  refine wpAnyH_take (i := 5) (oi := { dst := some 35, op := Op.load 23 (Operand.tmp 6), type := _, pos := _, after := _, guard := none }) (v := ?_) rfl (by kernel_rfl) (by kernel_rfl) (by kernel_rfl) (fun _ _ _ h => h) (Or.inl ⟨by rfl, ?_⟩) hH ?_
  rotate_left
  · (intro w hSw; (try dsimp only at hSw); go_simp; (try with_reducible rfl))
  try simp only [Act.put, List.setIfInBounds_toArray, List.set_cons_zero, List.set_cons_succ]
  refine wpAnyH_take (i := 6) (oi := { dst := some 36, op := Op.load 23 (Operand.tmp 7), type := _, pos := _, after := _, guard := none }) (v := ?_) rfl (by kernel_rfl) (by kernel_rfl) (by kernel_rfl) (fun _ _ _ h => h) (Or.inl ⟨by rfl, ?_⟩) hH ?_
  rotate_left
  · (intro w hSw; (try dsimp only at hSw); go_simp; (try with_reducible rfl))
  try simp only [Act.put, List.setIfInBounds_toArray, List.set_cons_zero, List.set_cons_succ]
  refine wpAnyH_take (i := 7) (oi := { dst := some 37, op := Op.load 23 (Operand.tmp 4), type := _, pos := _, after := _, guard := none }) (v := ?_) rfl (by kernel_rfl) (by kernel_rfl) (by kernel_rfl) (fun _ _ _ h => h) (Or.inl ⟨by rfl, ?_⟩) hH ?_
  rotate_left
  · (intro w hSw; (try dsimp only at hSw); go_simp; (try with_reducible rfl))
  try simp only [Act.put, List.setIfInBounds_toArray, List.set_cons_zero, List.set_cons_succ]
  refine wpAnyH_take (i := 8) (oi := { dst := some 38, op := Op.load 23 (Operand.tmp 5), type := _, pos := _, after := _, guard := none }) (v := ?_) rfl (by kernel_rfl) (by kernel_rfl) (by kernel_rfl) (fun _ _ _ h => h) (Or.inl ⟨by rfl, ?_⟩) hH ?_
  rotate_left
  · (intro w hSw; (try dsimp only at hSw); go_simp; (try with_reducible rfl))
  try simp only [Act.put, List.setIfInBounds_toArray, List.set_cons_zero, List.set_cons_succ]
  refine wpAnyH_ready (rs := [4]) (by kernel_rfl) (by simp) ?_
  refine AllReadyH.cons (o := { dst := some 34, op := Op.call { callee := Callee.value (Operand.func 12), args := #[Operand.tmp 30, Operand.tmp 31, Operand.tmp 32, Operand.tmp 33], argTypes := #[23, 23, 23, 23] }, type := _, pos := _, after := _, guard := none }) rfl (fun K hK => ?_) AllReadyH.nil
  go_simp
  (with_reducible refine (C2.out _).mono ?_); rintro e v4_4 ⟨rfl, g⟩
  refine hK.out _ _ (by (try dsimp only); (go_split_ands; exact ⟨Kep.all g (by assumption), Kep.all g (by assumption), Kep.all g (by assumption), Kep.all g (by assumption), Kep.all g (by assumption), Kep.all g (by assumption), Kep.all g (by assumption), Kep.all g (by assumption), Kep.all g (by assumption), Kep.all g (by assumption), Kep.all g (by assumption), Kep.all g (by assumption), kep_next (by assumption) g⟩)) (fun hH2 => ?_)
  clear hK K hH; have hH := hH2; clear hH2
  try simp only [Act.put, List.setIfInBounds_toArray, List.set_cons_zero, List.set_cons_succ]
  refine wpAnyH_ready (rs := [9]) (by kernel_rfl) (by simp) ?_
  refine AllReadyH.cons (o := { dst := some 39, op := Op.call { callee := Callee.value (Operand.func 12), args := #[Operand.tmp 35, Operand.tmp 36, Operand.tmp 37, Operand.tmp 38], argTypes := #[23, 23, 23, 23] }, type := _, pos := _, after := _, guard := none }) rfl (fun K hK => ?_) AllReadyH.nil
  go_simp
  (with_reducible refine (C3.out _).mono ?_); rintro e v4_9 ⟨rfl, g⟩
  refine hK.out _ _ (by (try dsimp only); (go_split_ands; exact ⟨Kep.all g (by assumption), Kep.all g (by assumption), Kep.all g (by assumption), Kep.all g (by assumption), Kep.all g (by assumption), Kep.all g (by assumption), Kep.all g (by assumption), Kep.all g (by assumption), Kep.all g (by assumption), Kep.all g (by assumption), Kep.all g (by assumption), Kep.all g (by assumption), kep_next (by assumption) g⟩)) (fun hH2 => ?_)
  clear hK K hH; have hH := hH2; clear hH2
  try simp only [Act.put, List.setIfInBounds_toArray, List.set_cons_zero, List.set_cons_succ]
  refine wpAnyH_take (i := 10) (oi := { dst := some 40, op := Op.binOp BinOp.eql 31 (Operand.tmp 34) (Operand.tmp 39) 31, type := _, pos := _, after := _, guard := none }) (v := ?_) rfl (by kernel_rfl) (by kernel_rfl) (by kernel_rfl) (fun _ _ _ h => h) (Or.inl ⟨by rfl, ?_⟩) hH ?_
  rotate_left
  · (intro w hSw; (try dsimp only at hSw); go_simp; (try with_reducible rfl))
  try simp only [Act.put, List.setIfInBounds_toArray, List.set_cons_zero, List.set_cons_succ]
  refine wpAnyH_take (i := 11) (oi := { dst := some 41, op := Op.move (Operand.tmp 40), type := _, pos := _, after := _, guard := none }) (v := ?_) rfl (by kernel_rfl) (by kernel_rfl) (by kernel_rfl) (fun _ _ _ h => h) (Or.inl ⟨by rfl, ?_⟩) hH ?_
  rotate_left
  · (intro w hSw; (try dsimp only at hSw); go_simp; (try with_reducible rfl))
  try simp only [Act.put, List.setIfInBounds_toArray, List.set_cons_zero, List.set_cons_succ]
  refine wpAnyH_take (i := 12) (oi := { dst := some 42, op := Op.load 23 (Operand.tmp 9), type := _, pos := _, after := _, guard := some (11, true) }) (v := ?_) rfl (by kernel_rfl) (by kernel_rfl) (by kernel_rfl) (fun _ _ _ h => h) (Or.inl ⟨by rfl, ?_⟩) hH ?_
  rotate_left
  · (intro w hSw; (try dsimp only at hSw); go_simp; (try with_reducible rfl))
  try simp only [Act.put, List.setIfInBounds_toArray, List.set_cons_zero, List.set_cons_succ]
  refine wpAnyH_take (i := 13) (oi := { dst := some 43, op := Op.load 23 (Operand.tmp 4), type := _, pos := _, after := _, guard := some (11, true) }) (v := ?_) rfl (by kernel_rfl) (by kernel_rfl) (by kernel_rfl) (fun _ _ _ h => h) (Or.inl ⟨by rfl, ?_⟩) hH ?_
  rotate_left
  · (intro w hSw; (try dsimp only at hSw); go_simp; (try with_reducible rfl))
  try simp only [Act.put, List.setIfInBounds_toArray, List.set_cons_zero, List.set_cons_succ]
  refine wpAnyH_take (i := 14) (oi := { dst := some 44, op := Op.binOp BinOp.eql 23 (Operand.tmp 42) (Operand.tmp 43) 23, type := _, pos := _, after := _, guard := some (11, true) }) (v := ?_) rfl (by kernel_rfl) (by kernel_rfl) (by kernel_rfl) (fun _ _ _ h => h) (Or.inl ⟨by rfl, ?_⟩) hH ?_
  rotate_left
  · (intro w hSw; (try dsimp only at hSw); go_simp; (try with_reducible rfl))
  try simp only [Act.put, List.setIfInBounds_toArray, List.set_cons_zero, List.set_cons_succ]
  refine wpAnyH_take (i := 15) (oi := { dst := some 45, op := Op.pick (Operand.tmp 41) (Operand.tmp 44) (Operand.const (Value.bool false)), type := _, pos := _, after := _, guard := none }) (v := ?_) rfl (by kernel_rfl) (by kernel_rfl) (by kernel_rfl) (fun _ _ _ h => h) (Or.inl ⟨by rfl, ?_⟩) hH ?_
  rotate_left
  · (intro w hSw; (try dsimp only at hSw); go_simp; (try with_reducible rfl))
  try simp only [Act.put, List.setIfInBounds_toArray, List.set_cons_zero, List.set_cons_succ]
  refine wpAnyH_take (i := 16) (oi := { dst := some 46, op := Op.move (Operand.tmp 45), type := _, pos := _, after := _, guard := none }) (v := ?_) rfl (by kernel_rfl) (by kernel_rfl) (by kernel_rfl) (fun _ _ _ h => h) (Or.inl ⟨by rfl, ?_⟩) hH ?_
  rotate_left
  · (intro w hSw; (try dsimp only at hSw); go_simp; (try with_reducible rfl))
  try simp only [Act.put, List.setIfInBounds_toArray, List.set_cons_zero, List.set_cons_succ]
  refine wpAnyH_take (i := 17) (oi := { dst := some 47, op := Op.load 23 (Operand.tmp 10), type := _, pos := _, after := _, guard := some (16, true) }) (v := ?_) rfl (by kernel_rfl) (by kernel_rfl) (by kernel_rfl) (fun _ _ _ h => h) (Or.inl ⟨by rfl, ?_⟩) hH ?_
  rotate_left
  · (intro w hSw; (try dsimp only at hSw); go_simp; (try with_reducible rfl))
  try simp only [Act.put, List.setIfInBounds_toArray, List.set_cons_zero, List.set_cons_succ]
  refine wpAnyH_take (i := 18) (oi := { dst := some 48, op := Op.load 23 (Operand.tmp 6), type := _, pos := _, after := _, guard := some (16, true) }) (v := ?_) rfl (by kernel_rfl) (by kernel_rfl) (by kernel_rfl) (fun _ _ _ h => h) (Or.inl ⟨by rfl, ?_⟩) hH ?_
  rotate_left
  · (intro w hSw; (try dsimp only at hSw); go_simp; (try with_reducible rfl))
  try simp only [Act.put, List.setIfInBounds_toArray, List.set_cons_zero, List.set_cons_succ]
  refine wpAnyH_take (i := 19) (oi := { dst := some 49, op := Op.binOp BinOp.eql 23 (Operand.tmp 47) (Operand.tmp 48) 23, type := _, pos := _, after := _, guard := some (16, true) }) (v := ?_) rfl (by kernel_rfl) (by kernel_rfl) (by kernel_rfl) (fun _ _ _ h => h) (Or.inl ⟨by rfl, ?_⟩) hH ?_
  rotate_left
  · (intro w hSw; (try dsimp only at hSw); go_simp; (try with_reducible rfl))
  try simp only [Act.put, List.setIfInBounds_toArray, List.set_cons_zero, List.set_cons_succ]
  refine wpAnyH_take (i := 20) (oi := { dst := some 50, op := Op.pick (Operand.tmp 46) (Operand.tmp 49) (Operand.const (Value.bool false)), type := _, pos := _, after := _, guard := none }) (v := ?_) rfl (by kernel_rfl) (by kernel_rfl) (by kernel_rfl) (fun _ _ _ h => h) (Or.inl ⟨by rfl, ?_⟩) hH ?_
  rotate_left
  · (intro w hSw; (try dsimp only at hSw); go_simp; (try with_reducible rfl))
  try simp only [Act.put, List.setIfInBounds_toArray, List.set_cons_zero, List.set_cons_succ]
  refine wpAnyH_take (i := 21) (oi := { dst := some 51, op := Op.move (Operand.tmp 50), type := _, pos := _, after := _, guard := none }) (v := ?_) rfl (by kernel_rfl) (by kernel_rfl) (by kernel_rfl) (fun _ _ _ h => h) (Or.inl ⟨by rfl, ?_⟩) hH ?_
  rotate_left
  · (intro w hSw; (try dsimp only at hSw); go_simp; (try with_reducible rfl))
  try simp only [Act.put, List.setIfInBounds_toArray, List.set_cons_zero, List.set_cons_succ]
  refine wpAnyH_take (i := 22) (oi := { dst := some 52, op := Op.load 23 (Operand.tmp 4), type := _, pos := _, after := _, guard := some (21, true) }) (v := ?_) rfl (by kernel_rfl) (by kernel_rfl) (by kernel_rfl) (fun _ _ _ h => h) (Or.inl ⟨by rfl, ?_⟩) hH ?_
  rotate_left
  · (intro w hSw; (try dsimp only at hSw); go_simp; (try with_reducible rfl))
  try simp only [Act.put, List.setIfInBounds_toArray, List.set_cons_zero, List.set_cons_succ]
  refine wpAnyH_take (i := 23) (oi := { dst := some 53, op := Op.load 23 (Operand.tmp 5), type := _, pos := _, after := _, guard := some (21, true) }) (v := ?_) rfl (by kernel_rfl) (by kernel_rfl) (by kernel_rfl) (fun _ _ _ h => h) (Or.inl ⟨by rfl, ?_⟩) hH ?_
  rotate_left
  · (intro w hSw; (try dsimp only at hSw); go_simp; (try with_reducible rfl))
  try simp only [Act.put, List.setIfInBounds_toArray, List.set_cons_zero, List.set_cons_succ]
  refine wpAnyH_take (i := 24) (oi := { dst := some 54, op := Op.load 23 (Operand.tmp 4), type := _, pos := _, after := _, guard := some (21, true) }) (v := ?_) rfl (by kernel_rfl) (by kernel_rfl) (by kernel_rfl) (fun _ _ _ h => h) (Or.inl ⟨by rfl, ?_⟩) hH ?_
  rotate_left
  · (intro w hSw; (try dsimp only at hSw); go_simp; (try with_reducible rfl))
  try simp only [Act.put, List.setIfInBounds_toArray, List.set_cons_zero, List.set_cons_succ]
  refine wpAnyH_take (i := 25) (oi := { dst := some 55, op := Op.load 23 (Operand.tmp 5), type := _, pos := _, after := _, guard := some (21, true) }) (v := ?_) rfl (by kernel_rfl) (by kernel_rfl) (by kernel_rfl) (fun _ _ _ h => h) (Or.inl ⟨by rfl, ?_⟩) hH ?_
  rotate_left
  · (intro w hSw; (try dsimp only at hSw); go_simp; (try with_reducible rfl))
  try simp only [Act.put, List.setIfInBounds_toArray, List.set_cons_zero, List.set_cons_succ]
  refine wpAnyH_ready (rs := [26]) (by kernel_rfl) (by simp) ?_
  refine AllReadyH.cons (o := { dst := some 56, op := Op.call { callee := Callee.value (Operand.func 12), args := #[Operand.tmp 52, Operand.tmp 53, Operand.tmp 54, Operand.tmp 55], argTypes := #[23, 23, 23, 23] }, type := _, pos := _, after := _, guard := some (21, true) }) rfl (fun K hK => ?_) AllReadyH.nil
  go_simp
  (with_reducible refine (C4.out _).mono ?_); rintro e v4_26 ⟨rfl, g⟩
  refine hK.out _ _ (by (try dsimp only); (go_split_ands; exact ⟨Kep.all g (by assumption), Kep.all g (by assumption), Kep.all g (by assumption), Kep.all g (by assumption), Kep.all g (by assumption), Kep.all g (by assumption), Kep.all g (by assumption), Kep.all g (by assumption), Kep.all g (by assumption), Kep.all g (by assumption), Kep.all g (by assumption), Kep.all g (by assumption), kep_next (by assumption) g⟩)) (fun hH2 => ?_)
  clear hK K hH; have hH := hH2; clear hH2
  try simp only [Act.put, List.setIfInBounds_toArray, List.set_cons_zero, List.set_cons_succ]
  refine wpAnyH_take (i := 27) (oi := { dst := some 57, op := Op.binOp BinOp.eql 31 (Operand.tmp 56) (Operand.const (Value.int IntKind.u64 0)) 31, type := _, pos := _, after := _, guard := some (21, true) }) (v := ?_) rfl (by kernel_rfl) (by kernel_rfl) (by kernel_rfl) (fun _ _ _ h => h) (Or.inl ⟨by rfl, ?_⟩) hH ?_
  rotate_left
  · (intro w hSw; (try dsimp only at hSw); go_simp; (try with_reducible rfl))
  try simp only [Act.put, List.setIfInBounds_toArray, List.set_cons_zero, List.set_cons_succ]
  refine wpAnyH_take (i := 28) (oi := { dst := some 58, op := Op.pick (Operand.tmp 51) (Operand.tmp 57) (Operand.const (Value.bool false)), type := _, pos := _, after := _, guard := none }) (v := ?_) rfl (by kernel_rfl) (by kernel_rfl) (by kernel_rfl) (fun _ _ _ h => h) (Or.inl ⟨by rfl, ?_⟩) hH ?_
  rotate_left
  · (intro w hSw; (try dsimp only at hSw); go_simp; (try with_reducible rfl))
  try simp only [Act.put, List.setIfInBounds_toArray, List.set_cons_zero, List.set_cons_succ]
  refine wpAnyH_take (i := 29) (oi := { dst := some 8, op := Op.assign (Operand.tmp 58), type := _, pos := _, after := _, guard := none }) (v := ?_) rfl (by kernel_rfl) (by kernel_rfl) (by kernel_rfl) (fun _ _ _ h => h) (Or.inl ⟨by rfl, ?_⟩) hH ?_
  rotate_left
  · (intro w hSw; (try dsimp only at hSw); go_simp; (try with_reducible rfl))
  try simp only [Act.put, List.setIfInBounds_toArray, List.set_cons_zero, List.set_cons_succ]
  refine wpAnyH_done (by kernel_rfl) ?_ _
  refine NoPanic.normal ?_
  clear p0 p1 q0 q1 m0 m1 n0 n1 a0 a1 b0 b1 gg
  obtain ⟨p0, p1, q0, q1, m0, m1, n0, n1, a0, a1, b0, b1, gg⟩ := hH
  go_wp2_with fail
  go_ret
  exact ⟨rfl, gg⟩
/-- The law SegmentSymmetric. -/
theorem ssl_law (O : SOps) (AW : SAwake) (px py qx qy mx my nx ny : Int) (w : World) : Calls Try.prog 5 #[.agg #[.int .i32 px, .int .i32 py], .agg #[.int .i32 qx, .int .i32 qy], .agg #[.int .i32 mx, .int .i32 my], .agg #[.int .i32 nx, .int .i32 ny]] w fun e w' => e = .returned (.bool true) ∧ Kep w.heap.size w w' := by
  cases hr : sgB px py qx qy mx my nx ny
  · exact ssl_bad (Lib.hid AW) px py qx qy mx my nx ny hr w
  · exact ssl_ok O (Lib.hid AW) px py qx qy mx my nx ny hr w
end Go.Proofs.Ytadbpfmgdjegoaa
