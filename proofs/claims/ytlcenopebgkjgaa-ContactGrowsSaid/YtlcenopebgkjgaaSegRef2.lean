/-
  Package segment: the reference's Chosen.
-/
import Derived.Test.YtlcenopebgkjgaaSegRef
import Derived.Deep.DeepCutAuto
import Derived.Deep.QuietTactic
import Derived.BigQuiet
namespace Go.Proofs.Ytlcenopebgkjgaa
open Go.RowKit Go.Lib

set_option maxRecDepth 100000 in
set_option maxHeartbeats 8000000 in
theorem rch_go {px py qx qy mx my nx ny x0 y0 x1 y1 x2 y2 x3 y3 t0 t1 t2 t3 : Int} (N0 : Hid (RNe mx my nx ny px py x0 y0)) (N1 : Hid (RNe mx my nx ny qx qy x1 y1)) (N2 : Hid (RNe px py qx qy mx my x2 y2)) (N3 : Hid (RNe px py qx qy nx ny x3 y3))
    (G0 : Hid (Good (⟨px, py, x0, y0, t0⟩ : Tw))) (G1 : Hid (Good (⟨qx, qy, x1, y1, t1⟩ : Tw))) (G2 : Hid (Good (⟨x2, y2, mx, my, t2⟩ : Tw))) (G3 : Hid (Good (⟨x3, y3, nx, ny, t3⟩ : Tw))) : RCh px py qx qy mx my nx ny (bsK (⟨px, py, x0, y0, t0⟩ : Tw) (⟨qx, qy, x1, y1, t1⟩ : Tw) (⟨x2, y2, mx, my, t2⟩ : Tw) (⟨x3, y3, nx, ny, t3⟩ : Tw) 4) := fun w => by
  go_enter Try.func37, Try.ntmps37
  go_wp2_with fail
  obtain ⟨W0, hW0⟩ : ∃ z9, z9 = ((((w.alloc (.cells #[.int .i32 px, .int .i32 py] 24)).alloc (.cells #[.int .i32 qx, .int .i32 qy] 24)).alloc (.cells #[.int .i32 mx, .int .i32 my] 24)).alloc (.cells #[.int .i32 nx, .int .i32 ny] 24)).alloc (.cells #[.int .i32 0, .int .i32 0, .int .i32 0, .int .i32 0] 55) := ⟨_, rfl⟩
  rw [← hW0]
  have K0 := Lib.hid (show Kep w.heap.size w W0 by rw [hW0]; exact (kep_more (kep_more (kep_more (kep_more (kep_more (Kep.refl _ _) _) _) _) _) _))
  have HR : Hid (Bc W0 (w.heap.size + 1 + 1 + 1 + 1) ⟨0, 0, 0, 0, 0⟩) := Lib.hid (by
    rw [hW0]
    exact ⟨by rw [World.cell?_alloc_at _ _ _ _ (by simp)]; rfl, by rw [World.cell?_alloc_at _ _ _ _ (by simp)]; rfl, by rw [World.cell?_alloc_at _ _ _ _ (by simp)]; rfl, by rw [World.cell?_alloc_at _ _ _ _ (by simp)]; rfl, fun j => by rw [World.frozen?_alloc_at _ _ _ _ (by simp)]⟩)
  have p0 : W0.cell? ⟨w.heap.size, 0, none⟩ = some (.int .i32 px) := by rw [hW0]; (repeat (first | rw [World.cell?_alloc_past _ _ _ (by first | (simp; done) | (simp; omega))])); rw [World.cell?_alloc_at _ _ _ _ (by simp)]; rfl
  have p1 : W0.cell? ⟨w.heap.size, 1, none⟩ = some (.int .i32 py) := by rw [hW0]; (repeat (first | rw [World.cell?_alloc_past _ _ _ (by first | (simp; done) | (simp; omega))])); rw [World.cell?_alloc_at _ _ _ _ (by simp)]; rfl
  have q0 : W0.cell? ⟨w.heap.size + 1, 0, none⟩ = some (.int .i32 qx) := by rw [hW0]; (repeat (first | rw [World.cell?_alloc_past _ _ _ (by first | (simp; done) | (simp; omega))])); rw [World.cell?_alloc_at _ _ _ _ (by simp)]; rfl
  have q1 : W0.cell? ⟨w.heap.size + 1, 1, none⟩ = some (.int .i32 qy) := by rw [hW0]; (repeat (first | rw [World.cell?_alloc_past _ _ _ (by first | (simp; done) | (simp; omega))])); rw [World.cell?_alloc_at _ _ _ _ (by simp)]; rfl
  have m0 : W0.cell? ⟨w.heap.size + 1 + 1, 0, none⟩ = some (.int .i32 mx) := by rw [hW0]; (repeat (first | rw [World.cell?_alloc_past _ _ _ (by first | (simp; done) | (simp; omega))])); rw [World.cell?_alloc_at _ _ _ _ (by simp)]; rfl
  have m1 : W0.cell? ⟨w.heap.size + 1 + 1, 1, none⟩ = some (.int .i32 my) := by rw [hW0]; (repeat (first | rw [World.cell?_alloc_past _ _ _ (by first | (simp; done) | (simp; omega))])); rw [World.cell?_alloc_at _ _ _ _ (by simp)]; rfl
  have n0 : W0.cell? ⟨w.heap.size + 1 + 1 + 1, 0, none⟩ = some (.int .i32 nx) := by rw [hW0]; (repeat (first | rw [World.cell?_alloc_past _ _ _ (by first | (simp; done) | (simp; omega))])); rw [World.cell?_alloc_at _ _ _ _ (by simp)]; rfl
  have n1 : W0.cell? ⟨w.heap.size + 1 + 1 + 1, 1, none⟩ = some (.int .i32 ny) := by rw [hW0]; (repeat (first | rw [World.cell?_alloc_past _ _ _ (by first | (simp; done) | (simp; omega))])); rw [World.cell?_alloc_at _ _ _ _ (by simp)]; rfl
  clear hW0
  refine wp_region_noPanic ?_
  refine wp_region_held_drew (S := (fun w' => w'.cell? ⟨w.heap.size, 0, none⟩ = some (.int .i32 px) ∧ w'.cell? ⟨w.heap.size, 1, none⟩ = some (.int .i32 py) ∧ w'.cell? ⟨w.heap.size + 1, 0, none⟩ = some (.int .i32 qx) ∧ w'.cell? ⟨w.heap.size + 1, 1, none⟩ = some (.int .i32 qy) ∧ w'.cell? ⟨w.heap.size + 1 + 1, 0, none⟩ = some (.int .i32 mx) ∧ w'.cell? ⟨w.heap.size + 1 + 1, 1, none⟩ = some (.int .i32 my) ∧ w'.cell? ⟨w.heap.size + 1 + 1 + 1, 0, none⟩ = some (.int .i32 nx) ∧ w'.cell? ⟨w.heap.size + 1 + 1 + 1, 1, none⟩ = some (.int .i32 ny) ∧ Kep W0.heap.size W0 w')) (by kernel_rfl) (⟨by rw [World.cell?_drew]; exact p0, by rw [World.cell?_drew]; exact p1, by rw [World.cell?_drew]; exact q0, by rw [World.cell?_drew]; exact q1, by rw [World.cell?_drew]; exact m0, by rw [World.cell?_drew]; exact m1, by rw [World.cell?_drew]; exact n0, by rw [World.cell?_drew]; exact n1, kep_drew (Kep.refl _ _)⟩) (fun hH => ?_)
  refine wpAnyH_take (i := 0) (oi := { dst := some 12, op := Op.load 24 (Operand.tmp 4), type := _, pos := _, after := _, guard := none }) (v := ?_) rfl (by kernel_rfl) (by kernel_rfl) (by kernel_rfl) (fun _ _ _ h => h) (Or.inl ⟨by rfl, ?_⟩) hH ?_
  rotate_left
  · (intro w hSw; (try dsimp only at hSw); go_simp; (try with_reducible rfl))
  try simp only [Act.put, List.setIfInBounds_toArray, List.set_cons_zero, List.set_cons_succ]
  refine wpAnyH_take (i := 1) (oi := { dst := some 13, op := Op.load 24 (Operand.tmp 6), type := _, pos := _, after := _, guard := none }) (v := ?_) rfl (by kernel_rfl) (by kernel_rfl) (by kernel_rfl) (fun _ _ _ h => h) (Or.inl ⟨by rfl, ?_⟩) hH ?_
  rotate_left
  · (intro w hSw; (try dsimp only at hSw); go_simp; (try with_reducible rfl))
  try simp only [Act.put, List.setIfInBounds_toArray, List.set_cons_zero, List.set_cons_succ]
  refine wpAnyH_take (i := 2) (oi := { dst := some 14, op := Op.load 24 (Operand.tmp 7), type := _, pos := _, after := _, guard := none }) (v := ?_) rfl (by kernel_rfl) (by kernel_rfl) (by kernel_rfl) (fun _ _ _ h => h) (Or.inl ⟨by rfl, ?_⟩) hH ?_
  rotate_left
  · (intro w hSw; (try dsimp only at hSw); go_simp; (try with_reducible rfl))
  try simp only [Act.put, List.setIfInBounds_toArray, List.set_cons_zero, List.set_cons_succ]
  refine wpAnyH_take (i := 3) (oi := { dst := some 15, op := Op.load 24 (Operand.tmp 4), type := _, pos := _, after := _, guard := none }) (v := ?_) rfl (by kernel_rfl) (by kernel_rfl) (by kernel_rfl) (fun _ _ _ h => h) (Or.inl ⟨by rfl, ?_⟩) hH ?_
  rotate_left
  · (intro w hSw; (try dsimp only at hSw); go_simp; (try with_reducible rfl))
  try simp only [Act.put, List.setIfInBounds_toArray, List.set_cons_zero, List.set_cons_succ]
  refine wpAnyH_take (i := 6) (oi := { dst := some 18, op := Op.load 24 (Operand.tmp 5), type := _, pos := _, after := _, guard := none }) (v := ?_) rfl (by kernel_rfl) (by kernel_rfl) (by kernel_rfl) (fun _ _ _ h => h) (Or.inl ⟨by rfl, ?_⟩) hH ?_
  rotate_left
  · (intro w hSw; (try dsimp only at hSw); go_simp; (try with_reducible rfl))
  try simp only [Act.put, List.setIfInBounds_toArray, List.set_cons_zero, List.set_cons_succ]
  refine wpAnyH_take (i := 7) (oi := { dst := some 19, op := Op.load 24 (Operand.tmp 6), type := _, pos := _, after := _, guard := none }) (v := ?_) rfl (by kernel_rfl) (by kernel_rfl) (by kernel_rfl) (fun _ _ _ h => h) (Or.inl ⟨by rfl, ?_⟩) hH ?_
  rotate_left
  · (intro w hSw; (try dsimp only at hSw); go_simp; (try with_reducible rfl))
  try simp only [Act.put, List.setIfInBounds_toArray, List.set_cons_zero, List.set_cons_succ]
  refine wpAnyH_take (i := 8) (oi := { dst := some 20, op := Op.load 24 (Operand.tmp 7), type := _, pos := _, after := _, guard := none }) (v := ?_) rfl (by kernel_rfl) (by kernel_rfl) (by kernel_rfl) (fun _ _ _ h => h) (Or.inl ⟨by rfl, ?_⟩) hH ?_
  rotate_left
  · (intro w hSw; (try dsimp only at hSw); go_simp; (try with_reducible rfl))
  try simp only [Act.put, List.setIfInBounds_toArray, List.set_cons_zero, List.set_cons_succ]
  refine wpAnyH_take (i := 9) (oi := { dst := some 21, op := Op.load 24 (Operand.tmp 5), type := _, pos := _, after := _, guard := none }) (v := ?_) rfl (by kernel_rfl) (by kernel_rfl) (by kernel_rfl) (fun _ _ _ h => h) (Or.inl ⟨by rfl, ?_⟩) hH ?_
  rotate_left
  · (intro w hSw; (try dsimp only at hSw); go_simp; (try with_reducible rfl))
  try simp only [Act.put, List.setIfInBounds_toArray, List.set_cons_zero, List.set_cons_succ]
  refine wpAnyH_take (i := 12) (oi := { dst := some 24, op := Op.load 24 (Operand.tmp 4), type := _, pos := _, after := _, guard := none }) (v := ?_) rfl (by kernel_rfl) (by kernel_rfl) (by kernel_rfl) (fun _ _ _ h => h) (Or.inl ⟨by rfl, ?_⟩) hH ?_
  rotate_left
  · (intro w hSw; (try dsimp only at hSw); go_simp; (try with_reducible rfl))
  try simp only [Act.put, List.setIfInBounds_toArray, List.set_cons_zero, List.set_cons_succ]
  refine wpAnyH_take (i := 13) (oi := { dst := some 25, op := Op.load 24 (Operand.tmp 5), type := _, pos := _, after := _, guard := none }) (v := ?_) rfl (by kernel_rfl) (by kernel_rfl) (by kernel_rfl) (fun _ _ _ h => h) (Or.inl ⟨by rfl, ?_⟩) hH ?_
  rotate_left
  · (intro w hSw; (try dsimp only at hSw); go_simp; (try with_reducible rfl))
  try simp only [Act.put, List.setIfInBounds_toArray, List.set_cons_zero, List.set_cons_succ]
  refine wpAnyH_take (i := 14) (oi := { dst := some 26, op := Op.load 24 (Operand.tmp 6), type := _, pos := _, after := _, guard := none }) (v := ?_) rfl (by kernel_rfl) (by kernel_rfl) (by kernel_rfl) (fun _ _ _ h => h) (Or.inl ⟨by rfl, ?_⟩) hH ?_
  rotate_left
  · (intro w hSw; (try dsimp only at hSw); go_simp; (try with_reducible rfl))
  try simp only [Act.put, List.setIfInBounds_toArray, List.set_cons_zero, List.set_cons_succ]
  refine wpAnyH_take (i := 16) (oi := { dst := some 28, op := Op.load 24 (Operand.tmp 6), type := _, pos := _, after := _, guard := none }) (v := ?_) rfl (by kernel_rfl) (by kernel_rfl) (by kernel_rfl) (fun _ _ _ h => h) (Or.inl ⟨by rfl, ?_⟩) hH ?_
  rotate_left
  · (intro w hSw; (try dsimp only at hSw); go_simp; (try with_reducible rfl))
  try simp only [Act.put, List.setIfInBounds_toArray, List.set_cons_zero, List.set_cons_succ]
  refine wpAnyH_take (i := 18) (oi := { dst := some 30, op := Op.load 24 (Operand.tmp 4), type := _, pos := _, after := _, guard := none }) (v := ?_) rfl (by kernel_rfl) (by kernel_rfl) (by kernel_rfl) (fun _ _ _ h => h) (Or.inl ⟨by rfl, ?_⟩) hH ?_
  rotate_left
  · (intro w hSw; (try dsimp only at hSw); go_simp; (try with_reducible rfl))
  try simp only [Act.put, List.setIfInBounds_toArray, List.set_cons_zero, List.set_cons_succ]
  refine wpAnyH_take (i := 19) (oi := { dst := some 31, op := Op.load 24 (Operand.tmp 5), type := _, pos := _, after := _, guard := none }) (v := ?_) rfl (by kernel_rfl) (by kernel_rfl) (by kernel_rfl) (fun _ _ _ h => h) (Or.inl ⟨by rfl, ?_⟩) hH ?_
  rotate_left
  · (intro w hSw; (try dsimp only at hSw); go_simp; (try with_reducible rfl))
  try simp only [Act.put, List.setIfInBounds_toArray, List.set_cons_zero, List.set_cons_succ]
  refine wpAnyH_take (i := 20) (oi := { dst := some 32, op := Op.load 24 (Operand.tmp 7), type := _, pos := _, after := _, guard := none }) (v := ?_) rfl (by kernel_rfl) (by kernel_rfl) (by kernel_rfl) (fun _ _ _ h => h) (Or.inl ⟨by rfl, ?_⟩) hH ?_
  rotate_left
  · (intro w hSw; (try dsimp only at hSw); go_simp; (try with_reducible rfl))
  try simp only [Act.put, List.setIfInBounds_toArray, List.set_cons_zero, List.set_cons_succ]
  refine wpAnyH_take (i := 22) (oi := { dst := some 34, op := Op.load 24 (Operand.tmp 7), type := _, pos := _, after := _, guard := none }) (v := ?_) rfl (by kernel_rfl) (by kernel_rfl) (by kernel_rfl) (fun _ _ _ h => h) (Or.inl ⟨by rfl, ?_⟩) hH ?_
  rotate_left
  · (intro w hSw; (try dsimp only at hSw); go_simp; (try with_reducible rfl))
  try simp only [Act.put, List.setIfInBounds_toArray, List.set_cons_zero, List.set_cons_succ]
  refine wpAnyH_ready (rs := [4]) (by kernel_rfl) (by simp) ?_
  refine AllReadyH.cons (o := { dst := some 16, op := Op.call { callee := Callee.value (Operand.func 53), args := #[Operand.tmp 13, Operand.tmp 14, Operand.tmp 15], argTypes := #[24, 24, 24] }, type := _, pos := _, after := _, guard := none }) rfl (fun K hK => ?_) AllReadyH.nil
  go_simp
  (with_reducible refine (N0.out _).mono ?_); rintro e v1_4 ⟨rfl, g⟩
  refine hK.out _ _ (by (try dsimp only); (go_split_ands; exact ⟨Kep.all g (by assumption), Kep.all g (by assumption), Kep.all g (by assumption), Kep.all g (by assumption), Kep.all g (by assumption), Kep.all g (by assumption), Kep.all g (by assumption), Kep.all g (by assumption), kep_next (by assumption) g⟩)) (fun hH2 => ?_)
  clear hK K hH; have hH := hH2; clear hH2
  try simp only [Act.put, List.setIfInBounds_toArray, List.set_cons_zero, List.set_cons_succ]
  refine wpAnyH_take (i := 5) (oi := { dst := some 17, op := Op.build 55 #[(0, Operand.tmp 12), (1, Operand.tmp 16)], type := _, pos := _, after := _, guard := none }) (v := ?_) rfl (by kernel_rfl) (by kernel_rfl) (by kernel_rfl) (fun _ _ _ h => h) (Or.inl ⟨by rfl, ?_⟩) hH ?_
  rotate_left
  · (intro w hSw; (try dsimp only at hSw); go_simp; (try with_reducible rfl))
  try simp only [Act.put, List.setIfInBounds_toArray, List.set_cons_zero, List.set_cons_succ]
  refine wpAnyH_ready (rs := [10]) (by kernel_rfl) (by simp) ?_
  refine AllReadyH.cons (o := { dst := some 22, op := Op.call { callee := Callee.value (Operand.func 53), args := #[Operand.tmp 19, Operand.tmp 20, Operand.tmp 21], argTypes := #[24, 24, 24] }, type := _, pos := _, after := _, guard := none }) rfl (fun K hK => ?_) AllReadyH.nil
  go_simp
  (with_reducible refine (N1.out _).mono ?_); rintro e v1_10 ⟨rfl, g⟩
  refine hK.out _ _ (by (try dsimp only); (go_split_ands; exact ⟨Kep.all g (by assumption), Kep.all g (by assumption), Kep.all g (by assumption), Kep.all g (by assumption), Kep.all g (by assumption), Kep.all g (by assumption), Kep.all g (by assumption), Kep.all g (by assumption), kep_next (by assumption) g⟩)) (fun hH2 => ?_)
  clear hK K hH; have hH := hH2; clear hH2
  try simp only [Act.put, List.setIfInBounds_toArray, List.set_cons_zero, List.set_cons_succ]
  refine wpAnyH_take (i := 11) (oi := { dst := some 23, op := Op.build 55 #[(0, Operand.tmp 18), (1, Operand.tmp 22)], type := _, pos := _, after := _, guard := none }) (v := ?_) rfl (by kernel_rfl) (by kernel_rfl) (by kernel_rfl) (fun _ _ _ h => h) (Or.inl ⟨by rfl, ?_⟩) hH ?_
  rotate_left
  · (intro w hSw; (try dsimp only at hSw); go_simp; (try with_reducible rfl))
  try simp only [Act.put, List.setIfInBounds_toArray, List.set_cons_zero, List.set_cons_succ]
  refine wpAnyH_ready (rs := [15]) (by kernel_rfl) (by simp) ?_
  refine AllReadyH.cons (o := { dst := some 27, op := Op.call { callee := Callee.value (Operand.func 53), args := #[Operand.tmp 24, Operand.tmp 25, Operand.tmp 26], argTypes := #[24, 24, 24] }, type := _, pos := _, after := _, guard := none }) rfl (fun K hK => ?_) AllReadyH.nil
  go_simp
  (with_reducible refine (N2.out _).mono ?_); rintro e v1_15 ⟨rfl, g⟩
  refine hK.out _ _ (by (try dsimp only); (go_split_ands; exact ⟨Kep.all g (by assumption), Kep.all g (by assumption), Kep.all g (by assumption), Kep.all g (by assumption), Kep.all g (by assumption), Kep.all g (by assumption), Kep.all g (by assumption), Kep.all g (by assumption), kep_next (by assumption) g⟩)) (fun hH2 => ?_)
  clear hK K hH; have hH := hH2; clear hH2
  try simp only [Act.put, List.setIfInBounds_toArray, List.set_cons_zero, List.set_cons_succ]
  refine wpAnyH_take (i := 17) (oi := { dst := some 29, op := Op.build 55 #[(0, Operand.tmp 27), (1, Operand.tmp 28)], type := _, pos := _, after := _, guard := none }) (v := ?_) rfl (by kernel_rfl) (by kernel_rfl) (by kernel_rfl) (fun _ _ _ h => h) (Or.inl ⟨by rfl, ?_⟩) hH ?_
  rotate_left
  · (intro w hSw; (try dsimp only at hSw); go_simp; (try with_reducible rfl))
  try simp only [Act.put, List.setIfInBounds_toArray, List.set_cons_zero, List.set_cons_succ]
  refine wpAnyH_ready (rs := [21]) (by kernel_rfl) (by simp) ?_
  refine AllReadyH.cons (o := { dst := some 33, op := Op.call { callee := Callee.value (Operand.func 53), args := #[Operand.tmp 30, Operand.tmp 31, Operand.tmp 32], argTypes := #[24, 24, 24] }, type := _, pos := _, after := _, guard := none }) rfl (fun K hK => ?_) AllReadyH.nil
  go_simp
  (with_reducible refine (N3.out _).mono ?_); rintro e v1_21 ⟨rfl, g⟩
  refine hK.out _ _ (by (try dsimp only); (go_split_ands; exact ⟨Kep.all g (by assumption), Kep.all g (by assumption), Kep.all g (by assumption), Kep.all g (by assumption), Kep.all g (by assumption), Kep.all g (by assumption), Kep.all g (by assumption), Kep.all g (by assumption), kep_next (by assumption) g⟩)) (fun hH2 => ?_)
  clear hK K hH; have hH := hH2; clear hH2
  try simp only [Act.put, List.setIfInBounds_toArray, List.set_cons_zero, List.set_cons_succ]
  refine wpAnyH_take (i := 23) (oi := { dst := some 35, op := Op.build 55 #[(0, Operand.tmp 33), (1, Operand.tmp 34)], type := _, pos := _, after := _, guard := none }) (v := ?_) rfl (by kernel_rfl) (by kernel_rfl) (by kernel_rfl) (fun _ _ _ h => h) (Or.inl ⟨by rfl, ?_⟩) hH ?_
  rotate_left
  · (intro w hSw; (try dsimp only at hSw); go_simp; (try with_reducible rfl))
  try simp only [Act.put, List.setIfInBounds_toArray, List.set_cons_zero, List.set_cons_succ]
  refine wpAnyH_ready (rs := [24]) (by kernel_rfl) (by simp) ?_
  refine AllReadyH.cons (o := { dst := some 36, op := Op.buildSlice 80 4 #[(0, Operand.tmp 17), (1, Operand.tmp 23), (2, Operand.tmp 29), (3, Operand.tmp 35)], type := _, pos := _, after := _, guard := none }) rfl (fun K hK => ?_) AllReadyH.nil
  go_simp
  refine hK.out _ _ (by (try dsimp only); (go_split_ands; exact ⟨Kep.all (kep_more (Kep.refl _ _) _) (by assumption), Kep.all (kep_more (Kep.refl _ _) _) (by assumption), Kep.all (kep_more (Kep.refl _ _) _) (by assumption), Kep.all (kep_more (Kep.refl _ _) _) (by assumption), Kep.all (kep_more (Kep.refl _ _) _) (by assumption), Kep.all (kep_more (Kep.refl _ _) _) (by assumption), Kep.all (kep_more (Kep.refl _ _) _) (by assumption), Kep.all (kep_more (Kep.refl _ _) _) (by assumption), kep_more (by assumption) _⟩)) (fun hH2 => ?_)
  clear hK K hH; have hH := hH2; clear hH2
  try simp only [Act.put, List.setIfInBounds_toArray, List.set_cons_zero, List.set_cons_succ]
  refine wpAnyH_take (i := 25) (oi := { dst := some 9, op := Op.assign (Operand.tmp 36), type := _, pos := _, after := _, guard := none }) (v := ?_) rfl (by kernel_rfl) (by kernel_rfl) (by kernel_rfl) (fun _ _ _ h => h) (Or.inl ⟨by rfl, ?_⟩) hH ?_
  rotate_left
  · (intro w hSw; (try dsimp only at hSw); go_simp; (try with_reducible rfl))
  try simp only [Act.put, List.setIfInBounds_toArray, List.set_cons_zero, List.set_cons_succ]
  refine wpAnyH_done (by kernel_rfl) ?_ _
  refine NoPanic.normal ?_
  clear p0 p1 q0 q1 m0 m1 n0 n1
  obtain ⟨p0, p1, q0, q1, m0, m1, n0, n1, gg⟩ := hH
  obtain ⟨V, hV⟩ : ∃ z9, z9 = v1_21 := ⟨_, rfl⟩
  rw [← hV] at gg ⊢
  clear p0 p1 q0 q1 m0 m1 n0 n1 hV
  obtain ⟨W1, hW1⟩ : ∃ z9, z9 = V.alloc (.cells #[.int .i32 px, .int .i32 py, .int .i32 x0, .int .i32 y0, .int .i32 qx, .int .i32 qy, .int .i32 x1, .int .i32 y1, .int .i32 x2, .int .i32 y2, .int .i32 mx, .int .i32 my, .int .i32 x3, .int .i32 y3, .int .i32 nx, .int .i32 ny] 55) := ⟨_, rfl⟩
  rw [← hW1] at gg ⊢
  have KV := Lib.hid (show Kep V.heap.size V W1 by rw [hW1]; exact kep_more (Kep.refl _ _) _)
  have H0_0 : Hid (W1.cell? ⟨V.heap.size, 0, none⟩ = some (.int .i32 px)) := Lib.hid (by rw [hW1, World.cell?_alloc_at _ _ _ _ (by simp)]; rfl)
  have H0_1 : Hid (W1.cell? ⟨V.heap.size, 1, none⟩ = some (.int .i32 py)) := Lib.hid (by rw [hW1, World.cell?_alloc_at _ _ _ _ (by simp)]; rfl)
  have H0_2 : Hid (W1.cell? ⟨V.heap.size, 2, none⟩ = some (.int .i32 x0)) := Lib.hid (by rw [hW1, World.cell?_alloc_at _ _ _ _ (by simp)]; rfl)
  have H0_3 : Hid (W1.cell? ⟨V.heap.size, 3, none⟩ = some (.int .i32 y0)) := Lib.hid (by rw [hW1, World.cell?_alloc_at _ _ _ _ (by simp)]; rfl)
  have H1_0 : Hid (W1.cell? ⟨V.heap.size, 4, none⟩ = some (.int .i32 qx)) := Lib.hid (by rw [hW1, World.cell?_alloc_at _ _ _ _ (by simp)]; rfl)
  have H1_1 : Hid (W1.cell? ⟨V.heap.size, 5, none⟩ = some (.int .i32 qy)) := Lib.hid (by rw [hW1, World.cell?_alloc_at _ _ _ _ (by simp)]; rfl)
  have H1_2 : Hid (W1.cell? ⟨V.heap.size, 6, none⟩ = some (.int .i32 x1)) := Lib.hid (by rw [hW1, World.cell?_alloc_at _ _ _ _ (by simp)]; rfl)
  have H1_3 : Hid (W1.cell? ⟨V.heap.size, 7, none⟩ = some (.int .i32 y1)) := Lib.hid (by rw [hW1, World.cell?_alloc_at _ _ _ _ (by simp)]; rfl)
  have H2_0 : Hid (W1.cell? ⟨V.heap.size, 8, none⟩ = some (.int .i32 x2)) := Lib.hid (by rw [hW1, World.cell?_alloc_at _ _ _ _ (by simp)]; rfl)
  have H2_1 : Hid (W1.cell? ⟨V.heap.size, 9, none⟩ = some (.int .i32 y2)) := Lib.hid (by rw [hW1, World.cell?_alloc_at _ _ _ _ (by simp)]; rfl)
  have H2_2 : Hid (W1.cell? ⟨V.heap.size, 10, none⟩ = some (.int .i32 mx)) := Lib.hid (by rw [hW1, World.cell?_alloc_at _ _ _ _ (by simp)]; rfl)
  have H2_3 : Hid (W1.cell? ⟨V.heap.size, 11, none⟩ = some (.int .i32 my)) := Lib.hid (by rw [hW1, World.cell?_alloc_at _ _ _ _ (by simp)]; rfl)
  have H3_0 : Hid (W1.cell? ⟨V.heap.size, 12, none⟩ = some (.int .i32 x3)) := Lib.hid (by rw [hW1, World.cell?_alloc_at _ _ _ _ (by simp)]; rfl)
  have H3_1 : Hid (W1.cell? ⟨V.heap.size, 13, none⟩ = some (.int .i32 y3)) := Lib.hid (by rw [hW1, World.cell?_alloc_at _ _ _ _ (by simp)]; rfl)
  have H3_2 : Hid (W1.cell? ⟨V.heap.size, 14, none⟩ = some (.int .i32 nx)) := Lib.hid (by rw [hW1, World.cell?_alloc_at _ _ _ _ (by simp)]; rfl)
  have H3_3 : Hid (W1.cell? ⟨V.heap.size, 15, none⟩ = some (.int .i32 ny)) := Lib.hid (by rw [hW1, World.cell?_alloc_at _ _ _ _ (by simp)]; rfl)
  have K1 := Lib.hid gg
  have HR1 := Lib.hid (HR.out.kep gg)
  clear gg hW1 HR
  have zr : w.heap.size + 1 + 1 + 1 + 1 < W1.heap.size := World.block_lt_of_cell? _ _ HR1.out.c0
  have l0 := H0_0.out; have l1 := H0_1.out; have l2 := H0_2.out; have l3 := H0_3.out; 
  go_wp2_with fail
  obtain ⟨W2, hW2⟩ : ∃ z9, z9 = W1.alloc (.cells #[.int .i32 px, .int .i32 py, .int .i32 x0, .int .i32 y0] 55) := ⟨_, rfl⟩
  rw [← hW2]
  have HB : Hid (Bc W2 W1.heap.size (⟨px, py, x0, y0, t0⟩ : Tw) ∧ Kep W1.heap.size W1 W2) := Lib.hid (by
    rw [hW2]
    exact ⟨⟨by rw [World.cell?_alloc_at _ _ _ _ (by simp)]; rfl, by rw [World.cell?_alloc_at _ _ _ _ (by simp)]; rfl, by rw [World.cell?_alloc_at _ _ _ _ (by simp)]; rfl, by rw [World.cell?_alloc_at _ _ _ _ (by simp)]; rfl, fun j => by rw [World.frozen?_alloc_at _ _ _ _ (by simp)]⟩, kep_more (Kep.refl _ _) _⟩)
  clear hW2 l0 l1 l2 l3
  go_loopw [11] (fun i wr => ∃ k : Nat, 1 ≤ k ∧ k ≤ 4 ∧ i = .int .i64 k ∧ Hid (∃ B, B = bsK (⟨px, py, x0, y0, t0⟩ : Tw) (⟨qx, qy, x1, y1, t1⟩ : Tw) (⟨x2, y2, mx, my, t2⟩ : Tw) (⟨x3, y3, nx, ny, t3⟩ : Tw) k ∧ Good B ∧ Bc wr W1.heap.size B ∧ Kep W1.heap.size W1 wr)) (fun i _ => 4 - (RowKit.intOf i).toNat)
  case atStart => exact ⟨1, by omega, by omega, rfl, Lib.hid ⟨_, rfl, G0.out, HB.out.1, HB.out.2⟩⟩
  case round =>
    obtain ⟨k, hk1, hk4, rfl, HP⟩ := hrel
    obtain ⟨B, hB, hg, hc, hk⟩ := HP.out
    have HBe := Lib.hid hB
    have HG := Lib.hid hg
    have HBc := Lib.hid hc
    have HK := Lib.hid hk
    have RB := Lib.hid hg.rd
    clear HP hB hg hc hk HB
    by_cases hlt : k < 4
    · rcases (show k = 1 ∨ k = 2 ∨ k = 3 by omega) with rfl | rfl | rfl
      · have RL := Lib.hid G1.out.rd
        dsimp only at RL
        obtain ⟨z, hz⟩ : ∃ z, decide (t1 < B.t) = z := ⟨_, rfl⟩
        have l0 := HK.out.all H1_0.out
        have l1 := HK.out.all H1_1.out
        have l2 := HK.out.all H1_2.out
        have l3 := HK.out.all H1_3.out
        have b0 := HBc.out.c0
        have b1 := HBc.out.c1
        have b2 := HBc.out.c2
        have b3 := HBc.out.c3
        go_wp2_with fail
        refine wp_region_noPanic ?_
        refine wp_region_held_drew (S := (fun w' => w'.cell? ⟨V.heap.size, 4, none⟩ = some (.int .i32 qx) ∧ w'.cell? ⟨V.heap.size, 5, none⟩ = some (.int .i32 qy) ∧ w'.cell? ⟨V.heap.size, 6, none⟩ = some (.int .i32 x1) ∧ w'.cell? ⟨V.heap.size, 7, none⟩ = some (.int .i32 y1) ∧ w'.cell? ⟨W1.heap.size, 0, none⟩ = some (.int .i32 B.a) ∧ w'.cell? ⟨W1.heap.size, 1, none⟩ = some (.int .i32 B.b) ∧ w'.cell? ⟨W1.heap.size, 2, none⟩ = some (.int .i32 B.c) ∧ w'.cell? ⟨W1.heap.size, 3, none⟩ = some (.int .i32 B.d) ∧ Kep wr.heap.size wr w')) (by kernel_rfl) (⟨by rw [World.cell?_drew]; exact l0, by rw [World.cell?_drew]; exact l1, by rw [World.cell?_drew]; exact l2, by rw [World.cell?_drew]; exact l3, by rw [World.cell?_drew]; exact b0, by rw [World.cell?_drew]; exact b1, by rw [World.cell?_drew]; exact b2, by rw [World.cell?_drew]; exact b3, kep_drew (Kep.refl _ _)⟩) (fun hH => ?_)
        refine wpAnyH_take (i := 0) (oi := { dst := some 46, op := Op.move (Operand.tmp 9), type := _, pos := _, after := _, guard := none }) (v := ?_) rfl (by kernel_rfl) (by kernel_rfl) (by kernel_rfl) (fun _ _ _ h => h) (Or.inl ⟨by rfl, ?_⟩) hH ?_
        rotate_left
        · (intro w hSw; (try dsimp only at hSw); go_simp; (try with_reducible rfl))
        try simp only [Act.put, List.setIfInBounds_toArray, List.set_cons_zero, List.set_cons_succ]
        refine wpAnyH_take (i := 1) (oi := { dst := some 47, op := Op.move (Operand.tmp 11), type := _, pos := _, after := _, guard := none }) (v := ?_) rfl (by kernel_rfl) (by kernel_rfl) (by kernel_rfl) (fun _ _ _ h => h) (Or.inl ⟨by rfl, ?_⟩) hH ?_
        rotate_left
        · (intro w hSw; (try dsimp only at hSw); go_simp; (try with_reducible rfl))
        try simp only [Act.put, List.setIfInBounds_toArray, List.set_cons_zero, List.set_cons_succ]
        refine wpAnyH_take (i := 2) (oi := { dst := some 48, op := Op.indexAddr 80 (Operand.tmp 46) (Operand.tmp 47), type := _, pos := _, after := _, guard := none }) (v := ?_) rfl (by kernel_rfl) (by kernel_rfl) (by kernel_rfl) (fun _ _ _ h => h) (Or.inl ⟨by rfl, ?_⟩) hH ?_
        rotate_left
        · (intro w hSw; (try dsimp only at hSw); go_simp; (try with_reducible rfl))
        try simp only [Act.put, List.setIfInBounds_toArray, List.set_cons_zero, List.set_cons_succ]
        refine wpAnyH_take (i := 3) (oi := { dst := some 49, op := Op.load 55 (Operand.tmp 48), type := _, pos := _, after := _, guard := none }) (v := ?_) rfl (by kernel_rfl) (by kernel_rfl) (by kernel_rfl) (fun _ _ _ h => h) (Or.inl ⟨by rfl, ?_⟩) hH ?_
        rotate_left
        · (intro w hSw; (try dsimp only at hSw); go_simp; (try with_reducible rfl))
        try simp only [Act.put, List.setIfInBounds_toArray, List.set_cons_zero, List.set_cons_succ]
        refine wpAnyH_take (i := 5) (oi := { dst := some 51, op := Op.load 55 (Operand.tmp 10), type := _, pos := _, after := _, guard := none }) (v := ?_) rfl (by kernel_rfl) (by kernel_rfl) (by kernel_rfl) (fun _ _ _ h => h) (Or.inl ⟨by rfl, ?_⟩) hH ?_
        rotate_left
        · (intro w hSw; (try dsimp only at hSw); go_simp; (try with_reducible rfl))
        try simp only [Act.put, List.setIfInBounds_toArray, List.set_cons_zero, List.set_cons_succ]
        refine wpAnyH_ready (rs := [4]) (by kernel_rfl) (by simp) ?_
        refine AllReadyH.cons (o := { dst := some 50, op := Op.call { callee := Callee.value (Operand.func 26), args := #[Operand.tmp 49], argTypes := #[55] }, type := _, pos := _, after := _, guard := none }) rfl (fun K hK => ?_) AllReadyH.nil
        go_simp
        (with_reducible refine (RL.out _).mono ?_); rintro e v6_4 ⟨rfl, g⟩
        refine hK.out _ _ (by (try dsimp only); (go_split_ands; exact ⟨Kep.all g (by assumption), Kep.all g (by assumption), Kep.all g (by assumption), Kep.all g (by assumption), Kep.all g (by assumption), Kep.all g (by assumption), Kep.all g (by assumption), Kep.all g (by assumption), kep_next (by assumption) g⟩)) (fun hH2 => ?_)
        clear hK K hH; have hH := hH2; clear hH2
        try simp only [Act.put, List.setIfInBounds_toArray, List.set_cons_zero, List.set_cons_succ]
        refine wpAnyH_ready (rs := [6]) (by kernel_rfl) (by simp) ?_
        refine AllReadyH.cons (o := { dst := some 52, op := Op.call { callee := Callee.value (Operand.func 26), args := #[Operand.tmp 51], argTypes := #[55] }, type := _, pos := _, after := _, guard := none }) rfl (fun K hK => ?_) AllReadyH.nil
        go_simp
        (with_reducible refine (RB.out _).mono ?_); rintro e v6_6 ⟨rfl, g⟩
        refine hK.out _ _ (by (try dsimp only); (go_split_ands; exact ⟨Kep.all g (by assumption), Kep.all g (by assumption), Kep.all g (by assumption), Kep.all g (by assumption), Kep.all g (by assumption), Kep.all g (by assumption), Kep.all g (by assumption), Kep.all g (by assumption), kep_next (by assumption) g⟩)) (fun hH2 => ?_)
        clear hK K hH; have hH := hH2; clear hH2
        try simp only [Act.put, List.setIfInBounds_toArray, List.set_cons_zero, List.set_cons_succ]
        refine wpAnyH_take (i := 7) (oi := { dst := some 53, op := Op.binOp BinOp.lss 57 (Operand.tmp 50) (Operand.tmp 52) 57, type := _, pos := _, after := _, guard := none }) (v := ?_) rfl (by kernel_rfl) (by kernel_rfl) (by kernel_rfl) (fun _ _ _ h => h) (Or.inl ⟨by rfl, ?_⟩) hH ?_
        rotate_left
        · (intro w hSw; (try dsimp only at hSw); go_simp; (try with_reducible rfl))
        try simp only [Act.put, List.setIfInBounds_toArray, List.set_cons_zero, List.set_cons_succ]
        refine wpAnyH_done (by kernel_rfl) ?_ _
        refine NoPanic.normal ?_
        clear l0 l1 l2 l3 b0 b1 b2 b3
        obtain ⟨l0, l1, l2, l3, b0, b1, b2, b3, gg⟩ := hH
        have HBc2 := Lib.hid (HBc.out.kep gg)
        have HK2 := Lib.hid (kep_next HK.out gg)
        have HZ := Lib.hid hz
        clear hz gg
        obtain ⟨wq, hwq⟩ : ∃ z9, z9 = v6_6 := ⟨_, rfl⟩
        rw [← hwq] at l0 l1 l2 l3 b0 b1 b2 b3 HBc2 HK2 ⊢
        clear hwq
        cases z
        · go_wp2_with fail
          go_roundw
          case rel => exact ⟨2, by omega, by omega, by go_num, Lib.hid ⟨B, by rw [show bsK (⟨px, py, x0, y0, t0⟩ : Tw) (⟨qx, qy, x1, y1, t1⟩ : Tw) (⟨x2, y2, mx, my, t2⟩ : Tw) (⟨x3, y3, nx, ny, t3⟩ : Tw) 2 = pk (bsK (⟨px, py, x0, y0, t0⟩ : Tw) (⟨qx, qy, x1, y1, t1⟩ : Tw) (⟨x2, y2, mx, my, t2⟩ : Tw) (⟨x3, y3, nx, ny, t3⟩ : Tw) 1) (⟨qx, qy, x1, y1, t1⟩ : Tw) from rfl, ← HBe.out]; exact (pk_not HZ.out).symm, HG.out, HBc2.out, HK2.out⟩⟩
          case measure => simp [RowKit.intOf]
        · have f0 := HBc2.out.f 0
          have f1 := HBc2.out.f 1
          have f2 := HBc2.out.f 2
          have f3 := HBc2.out.f 3
          go_wp2_with fail
          go_roundw
          case rel => exact ⟨2, by omega, by omega, by go_num, Lib.hid ⟨(⟨qx, qy, x1, y1, t1⟩ : Tw), by rw [show bsK (⟨px, py, x0, y0, t0⟩ : Tw) (⟨qx, qy, x1, y1, t1⟩ : Tw) (⟨x2, y2, mx, my, t2⟩ : Tw) (⟨x3, y3, nx, ny, t3⟩ : Tw) 2 = pk (bsK (⟨px, py, x0, y0, t0⟩ : Tw) (⟨qx, qy, x1, y1, t1⟩ : Tw) (⟨x2, y2, mx, my, t2⟩ : Tw) (⟨x3, y3, nx, ny, t3⟩ : Tw) 1) (⟨qx, qy, x1, y1, t1⟩ : Tw) from rfl, ← HBe.out]; exact (pk_less (v := (⟨qx, qy, x1, y1, t1⟩ : Tw)) HZ.out).symm, G1.out, HBc2.out.set (⟨qx, qy, x1, y1, t1⟩ : Tw), kep_set (kep_set (kep_set (kep_set HK2.out (Nat.le_refl _) _) (Nat.le_refl _) _) (Nat.le_refl _) _) (Nat.le_refl _) _⟩⟩
          case measure => simp [RowKit.intOf]
      · have RL := Lib.hid G2.out.rd
        dsimp only at RL
        obtain ⟨z, hz⟩ : ∃ z, decide (t2 < B.t) = z := ⟨_, rfl⟩
        have l0 := HK.out.all H2_0.out
        have l1 := HK.out.all H2_1.out
        have l2 := HK.out.all H2_2.out
        have l3 := HK.out.all H2_3.out
        have b0 := HBc.out.c0
        have b1 := HBc.out.c1
        have b2 := HBc.out.c2
        have b3 := HBc.out.c3
        go_wp2_with fail
        refine wp_region_noPanic ?_
        refine wp_region_held_drew (S := (fun w' => w'.cell? ⟨V.heap.size, 8, none⟩ = some (.int .i32 x2) ∧ w'.cell? ⟨V.heap.size, 9, none⟩ = some (.int .i32 y2) ∧ w'.cell? ⟨V.heap.size, 10, none⟩ = some (.int .i32 mx) ∧ w'.cell? ⟨V.heap.size, 11, none⟩ = some (.int .i32 my) ∧ w'.cell? ⟨W1.heap.size, 0, none⟩ = some (.int .i32 B.a) ∧ w'.cell? ⟨W1.heap.size, 1, none⟩ = some (.int .i32 B.b) ∧ w'.cell? ⟨W1.heap.size, 2, none⟩ = some (.int .i32 B.c) ∧ w'.cell? ⟨W1.heap.size, 3, none⟩ = some (.int .i32 B.d) ∧ Kep wr.heap.size wr w')) (by kernel_rfl) (⟨by rw [World.cell?_drew]; exact l0, by rw [World.cell?_drew]; exact l1, by rw [World.cell?_drew]; exact l2, by rw [World.cell?_drew]; exact l3, by rw [World.cell?_drew]; exact b0, by rw [World.cell?_drew]; exact b1, by rw [World.cell?_drew]; exact b2, by rw [World.cell?_drew]; exact b3, kep_drew (Kep.refl _ _)⟩) (fun hH => ?_)
        refine wpAnyH_take (i := 0) (oi := { dst := some 46, op := Op.move (Operand.tmp 9), type := _, pos := _, after := _, guard := none }) (v := ?_) rfl (by kernel_rfl) (by kernel_rfl) (by kernel_rfl) (fun _ _ _ h => h) (Or.inl ⟨by rfl, ?_⟩) hH ?_
        rotate_left
        · (intro w hSw; (try dsimp only at hSw); go_simp; (try with_reducible rfl))
        try simp only [Act.put, List.setIfInBounds_toArray, List.set_cons_zero, List.set_cons_succ]
        refine wpAnyH_take (i := 1) (oi := { dst := some 47, op := Op.move (Operand.tmp 11), type := _, pos := _, after := _, guard := none }) (v := ?_) rfl (by kernel_rfl) (by kernel_rfl) (by kernel_rfl) (fun _ _ _ h => h) (Or.inl ⟨by rfl, ?_⟩) hH ?_
        rotate_left
        · (intro w hSw; (try dsimp only at hSw); go_simp; (try with_reducible rfl))
        try simp only [Act.put, List.setIfInBounds_toArray, List.set_cons_zero, List.set_cons_succ]
        refine wpAnyH_take (i := 2) (oi := { dst := some 48, op := Op.indexAddr 80 (Operand.tmp 46) (Operand.tmp 47), type := _, pos := _, after := _, guard := none }) (v := ?_) rfl (by kernel_rfl) (by kernel_rfl) (by kernel_rfl) (fun _ _ _ h => h) (Or.inl ⟨by rfl, ?_⟩) hH ?_
        rotate_left
        · (intro w hSw; (try dsimp only at hSw); go_simp; (try with_reducible rfl))
        try simp only [Act.put, List.setIfInBounds_toArray, List.set_cons_zero, List.set_cons_succ]
        refine wpAnyH_take (i := 3) (oi := { dst := some 49, op := Op.load 55 (Operand.tmp 48), type := _, pos := _, after := _, guard := none }) (v := ?_) rfl (by kernel_rfl) (by kernel_rfl) (by kernel_rfl) (fun _ _ _ h => h) (Or.inl ⟨by rfl, ?_⟩) hH ?_
        rotate_left
        · (intro w hSw; (try dsimp only at hSw); go_simp; (try with_reducible rfl))
        try simp only [Act.put, List.setIfInBounds_toArray, List.set_cons_zero, List.set_cons_succ]
        refine wpAnyH_take (i := 5) (oi := { dst := some 51, op := Op.load 55 (Operand.tmp 10), type := _, pos := _, after := _, guard := none }) (v := ?_) rfl (by kernel_rfl) (by kernel_rfl) (by kernel_rfl) (fun _ _ _ h => h) (Or.inl ⟨by rfl, ?_⟩) hH ?_
        rotate_left
        · (intro w hSw; (try dsimp only at hSw); go_simp; (try with_reducible rfl))
        try simp only [Act.put, List.setIfInBounds_toArray, List.set_cons_zero, List.set_cons_succ]
        refine wpAnyH_ready (rs := [4]) (by kernel_rfl) (by simp) ?_
        refine AllReadyH.cons (o := { dst := some 50, op := Op.call { callee := Callee.value (Operand.func 26), args := #[Operand.tmp 49], argTypes := #[55] }, type := _, pos := _, after := _, guard := none }) rfl (fun K hK => ?_) AllReadyH.nil
        go_simp
        (with_reducible refine (RL.out _).mono ?_); rintro e v6_4 ⟨rfl, g⟩
        refine hK.out _ _ (by (try dsimp only); (go_split_ands; exact ⟨Kep.all g (by assumption), Kep.all g (by assumption), Kep.all g (by assumption), Kep.all g (by assumption), Kep.all g (by assumption), Kep.all g (by assumption), Kep.all g (by assumption), Kep.all g (by assumption), kep_next (by assumption) g⟩)) (fun hH2 => ?_)
        clear hK K hH; have hH := hH2; clear hH2
        try simp only [Act.put, List.setIfInBounds_toArray, List.set_cons_zero, List.set_cons_succ]
        refine wpAnyH_ready (rs := [6]) (by kernel_rfl) (by simp) ?_
        refine AllReadyH.cons (o := { dst := some 52, op := Op.call { callee := Callee.value (Operand.func 26), args := #[Operand.tmp 51], argTypes := #[55] }, type := _, pos := _, after := _, guard := none }) rfl (fun K hK => ?_) AllReadyH.nil
        go_simp
        (with_reducible refine (RB.out _).mono ?_); rintro e v6_6 ⟨rfl, g⟩
        refine hK.out _ _ (by (try dsimp only); (go_split_ands; exact ⟨Kep.all g (by assumption), Kep.all g (by assumption), Kep.all g (by assumption), Kep.all g (by assumption), Kep.all g (by assumption), Kep.all g (by assumption), Kep.all g (by assumption), Kep.all g (by assumption), kep_next (by assumption) g⟩)) (fun hH2 => ?_)
        clear hK K hH; have hH := hH2; clear hH2
        try simp only [Act.put, List.setIfInBounds_toArray, List.set_cons_zero, List.set_cons_succ]
        refine wpAnyH_take (i := 7) (oi := { dst := some 53, op := Op.binOp BinOp.lss 57 (Operand.tmp 50) (Operand.tmp 52) 57, type := _, pos := _, after := _, guard := none }) (v := ?_) rfl (by kernel_rfl) (by kernel_rfl) (by kernel_rfl) (fun _ _ _ h => h) (Or.inl ⟨by rfl, ?_⟩) hH ?_
        rotate_left
        · (intro w hSw; (try dsimp only at hSw); go_simp; (try with_reducible rfl))
        try simp only [Act.put, List.setIfInBounds_toArray, List.set_cons_zero, List.set_cons_succ]
        refine wpAnyH_done (by kernel_rfl) ?_ _
        refine NoPanic.normal ?_
        clear l0 l1 l2 l3 b0 b1 b2 b3
        obtain ⟨l0, l1, l2, l3, b0, b1, b2, b3, gg⟩ := hH
        have HBc2 := Lib.hid (HBc.out.kep gg)
        have HK2 := Lib.hid (kep_next HK.out gg)
        have HZ := Lib.hid hz
        clear hz gg
        obtain ⟨wq, hwq⟩ : ∃ z9, z9 = v6_6 := ⟨_, rfl⟩
        rw [← hwq] at l0 l1 l2 l3 b0 b1 b2 b3 HBc2 HK2 ⊢
        clear hwq
        cases z
        · go_wp2_with fail
          go_roundw
          case rel => exact ⟨3, by omega, by omega, by go_num, Lib.hid ⟨B, by rw [show bsK (⟨px, py, x0, y0, t0⟩ : Tw) (⟨qx, qy, x1, y1, t1⟩ : Tw) (⟨x2, y2, mx, my, t2⟩ : Tw) (⟨x3, y3, nx, ny, t3⟩ : Tw) 3 = pk (bsK (⟨px, py, x0, y0, t0⟩ : Tw) (⟨qx, qy, x1, y1, t1⟩ : Tw) (⟨x2, y2, mx, my, t2⟩ : Tw) (⟨x3, y3, nx, ny, t3⟩ : Tw) 2) (⟨x2, y2, mx, my, t2⟩ : Tw) from rfl, ← HBe.out]; exact (pk_not HZ.out).symm, HG.out, HBc2.out, HK2.out⟩⟩
          case measure => simp [RowKit.intOf]
        · have f0 := HBc2.out.f 0
          have f1 := HBc2.out.f 1
          have f2 := HBc2.out.f 2
          have f3 := HBc2.out.f 3
          go_wp2_with fail
          go_roundw
          case rel => exact ⟨3, by omega, by omega, by go_num, Lib.hid ⟨(⟨x2, y2, mx, my, t2⟩ : Tw), by rw [show bsK (⟨px, py, x0, y0, t0⟩ : Tw) (⟨qx, qy, x1, y1, t1⟩ : Tw) (⟨x2, y2, mx, my, t2⟩ : Tw) (⟨x3, y3, nx, ny, t3⟩ : Tw) 3 = pk (bsK (⟨px, py, x0, y0, t0⟩ : Tw) (⟨qx, qy, x1, y1, t1⟩ : Tw) (⟨x2, y2, mx, my, t2⟩ : Tw) (⟨x3, y3, nx, ny, t3⟩ : Tw) 2) (⟨x2, y2, mx, my, t2⟩ : Tw) from rfl, ← HBe.out]; exact (pk_less (v := (⟨x2, y2, mx, my, t2⟩ : Tw)) HZ.out).symm, G2.out, HBc2.out.set (⟨x2, y2, mx, my, t2⟩ : Tw), kep_set (kep_set (kep_set (kep_set HK2.out (Nat.le_refl _) _) (Nat.le_refl _) _) (Nat.le_refl _) _) (Nat.le_refl _) _⟩⟩
          case measure => simp [RowKit.intOf]
      · have RL := Lib.hid G3.out.rd
        dsimp only at RL
        obtain ⟨z, hz⟩ : ∃ z, decide (t3 < B.t) = z := ⟨_, rfl⟩
        have l0 := HK.out.all H3_0.out
        have l1 := HK.out.all H3_1.out
        have l2 := HK.out.all H3_2.out
        have l3 := HK.out.all H3_3.out
        have b0 := HBc.out.c0
        have b1 := HBc.out.c1
        have b2 := HBc.out.c2
        have b3 := HBc.out.c3
        go_wp2_with fail
        refine wp_region_noPanic ?_
        refine wp_region_held_drew (S := (fun w' => w'.cell? ⟨V.heap.size, 12, none⟩ = some (.int .i32 x3) ∧ w'.cell? ⟨V.heap.size, 13, none⟩ = some (.int .i32 y3) ∧ w'.cell? ⟨V.heap.size, 14, none⟩ = some (.int .i32 nx) ∧ w'.cell? ⟨V.heap.size, 15, none⟩ = some (.int .i32 ny) ∧ w'.cell? ⟨W1.heap.size, 0, none⟩ = some (.int .i32 B.a) ∧ w'.cell? ⟨W1.heap.size, 1, none⟩ = some (.int .i32 B.b) ∧ w'.cell? ⟨W1.heap.size, 2, none⟩ = some (.int .i32 B.c) ∧ w'.cell? ⟨W1.heap.size, 3, none⟩ = some (.int .i32 B.d) ∧ Kep wr.heap.size wr w')) (by kernel_rfl) (⟨by rw [World.cell?_drew]; exact l0, by rw [World.cell?_drew]; exact l1, by rw [World.cell?_drew]; exact l2, by rw [World.cell?_drew]; exact l3, by rw [World.cell?_drew]; exact b0, by rw [World.cell?_drew]; exact b1, by rw [World.cell?_drew]; exact b2, by rw [World.cell?_drew]; exact b3, kep_drew (Kep.refl _ _)⟩) (fun hH => ?_)
        refine wpAnyH_take (i := 0) (oi := { dst := some 46, op := Op.move (Operand.tmp 9), type := _, pos := _, after := _, guard := none }) (v := ?_) rfl (by kernel_rfl) (by kernel_rfl) (by kernel_rfl) (fun _ _ _ h => h) (Or.inl ⟨by rfl, ?_⟩) hH ?_
        rotate_left
        · (intro w hSw; (try dsimp only at hSw); go_simp; (try with_reducible rfl))
        try simp only [Act.put, List.setIfInBounds_toArray, List.set_cons_zero, List.set_cons_succ]
        refine wpAnyH_take (i := 1) (oi := { dst := some 47, op := Op.move (Operand.tmp 11), type := _, pos := _, after := _, guard := none }) (v := ?_) rfl (by kernel_rfl) (by kernel_rfl) (by kernel_rfl) (fun _ _ _ h => h) (Or.inl ⟨by rfl, ?_⟩) hH ?_
        rotate_left
        · (intro w hSw; (try dsimp only at hSw); go_simp; (try with_reducible rfl))
        try simp only [Act.put, List.setIfInBounds_toArray, List.set_cons_zero, List.set_cons_succ]
        refine wpAnyH_take (i := 2) (oi := { dst := some 48, op := Op.indexAddr 80 (Operand.tmp 46) (Operand.tmp 47), type := _, pos := _, after := _, guard := none }) (v := ?_) rfl (by kernel_rfl) (by kernel_rfl) (by kernel_rfl) (fun _ _ _ h => h) (Or.inl ⟨by rfl, ?_⟩) hH ?_
        rotate_left
        · (intro w hSw; (try dsimp only at hSw); go_simp; (try with_reducible rfl))
        try simp only [Act.put, List.setIfInBounds_toArray, List.set_cons_zero, List.set_cons_succ]
        refine wpAnyH_take (i := 3) (oi := { dst := some 49, op := Op.load 55 (Operand.tmp 48), type := _, pos := _, after := _, guard := none }) (v := ?_) rfl (by kernel_rfl) (by kernel_rfl) (by kernel_rfl) (fun _ _ _ h => h) (Or.inl ⟨by rfl, ?_⟩) hH ?_
        rotate_left
        · (intro w hSw; (try dsimp only at hSw); go_simp; (try with_reducible rfl))
        try simp only [Act.put, List.setIfInBounds_toArray, List.set_cons_zero, List.set_cons_succ]
        refine wpAnyH_take (i := 5) (oi := { dst := some 51, op := Op.load 55 (Operand.tmp 10), type := _, pos := _, after := _, guard := none }) (v := ?_) rfl (by kernel_rfl) (by kernel_rfl) (by kernel_rfl) (fun _ _ _ h => h) (Or.inl ⟨by rfl, ?_⟩) hH ?_
        rotate_left
        · (intro w hSw; (try dsimp only at hSw); go_simp; (try with_reducible rfl))
        try simp only [Act.put, List.setIfInBounds_toArray, List.set_cons_zero, List.set_cons_succ]
        refine wpAnyH_ready (rs := [4]) (by kernel_rfl) (by simp) ?_
        refine AllReadyH.cons (o := { dst := some 50, op := Op.call { callee := Callee.value (Operand.func 26), args := #[Operand.tmp 49], argTypes := #[55] }, type := _, pos := _, after := _, guard := none }) rfl (fun K hK => ?_) AllReadyH.nil
        go_simp
        (with_reducible refine (RL.out _).mono ?_); rintro e v6_4 ⟨rfl, g⟩
        refine hK.out _ _ (by (try dsimp only); (go_split_ands; exact ⟨Kep.all g (by assumption), Kep.all g (by assumption), Kep.all g (by assumption), Kep.all g (by assumption), Kep.all g (by assumption), Kep.all g (by assumption), Kep.all g (by assumption), Kep.all g (by assumption), kep_next (by assumption) g⟩)) (fun hH2 => ?_)
        clear hK K hH; have hH := hH2; clear hH2
        try simp only [Act.put, List.setIfInBounds_toArray, List.set_cons_zero, List.set_cons_succ]
        refine wpAnyH_ready (rs := [6]) (by kernel_rfl) (by simp) ?_
        refine AllReadyH.cons (o := { dst := some 52, op := Op.call { callee := Callee.value (Operand.func 26), args := #[Operand.tmp 51], argTypes := #[55] }, type := _, pos := _, after := _, guard := none }) rfl (fun K hK => ?_) AllReadyH.nil
        go_simp
        (with_reducible refine (RB.out _).mono ?_); rintro e v6_6 ⟨rfl, g⟩
        refine hK.out _ _ (by (try dsimp only); (go_split_ands; exact ⟨Kep.all g (by assumption), Kep.all g (by assumption), Kep.all g (by assumption), Kep.all g (by assumption), Kep.all g (by assumption), Kep.all g (by assumption), Kep.all g (by assumption), Kep.all g (by assumption), kep_next (by assumption) g⟩)) (fun hH2 => ?_)
        clear hK K hH; have hH := hH2; clear hH2
        try simp only [Act.put, List.setIfInBounds_toArray, List.set_cons_zero, List.set_cons_succ]
        refine wpAnyH_take (i := 7) (oi := { dst := some 53, op := Op.binOp BinOp.lss 57 (Operand.tmp 50) (Operand.tmp 52) 57, type := _, pos := _, after := _, guard := none }) (v := ?_) rfl (by kernel_rfl) (by kernel_rfl) (by kernel_rfl) (fun _ _ _ h => h) (Or.inl ⟨by rfl, ?_⟩) hH ?_
        rotate_left
        · (intro w hSw; (try dsimp only at hSw); go_simp; (try with_reducible rfl))
        try simp only [Act.put, List.setIfInBounds_toArray, List.set_cons_zero, List.set_cons_succ]
        refine wpAnyH_done (by kernel_rfl) ?_ _
        refine NoPanic.normal ?_
        clear l0 l1 l2 l3 b0 b1 b2 b3
        obtain ⟨l0, l1, l2, l3, b0, b1, b2, b3, gg⟩ := hH
        have HBc2 := Lib.hid (HBc.out.kep gg)
        have HK2 := Lib.hid (kep_next HK.out gg)
        have HZ := Lib.hid hz
        clear hz gg
        obtain ⟨wq, hwq⟩ : ∃ z9, z9 = v6_6 := ⟨_, rfl⟩
        rw [← hwq] at l0 l1 l2 l3 b0 b1 b2 b3 HBc2 HK2 ⊢
        clear hwq
        cases z
        · go_wp2_with fail
          go_roundw
          case rel => exact ⟨4, by omega, by omega, by go_num, Lib.hid ⟨B, by rw [show bsK (⟨px, py, x0, y0, t0⟩ : Tw) (⟨qx, qy, x1, y1, t1⟩ : Tw) (⟨x2, y2, mx, my, t2⟩ : Tw) (⟨x3, y3, nx, ny, t3⟩ : Tw) 4 = pk (bsK (⟨px, py, x0, y0, t0⟩ : Tw) (⟨qx, qy, x1, y1, t1⟩ : Tw) (⟨x2, y2, mx, my, t2⟩ : Tw) (⟨x3, y3, nx, ny, t3⟩ : Tw) 3) (⟨x3, y3, nx, ny, t3⟩ : Tw) from rfl, ← HBe.out]; exact (pk_not HZ.out).symm, HG.out, HBc2.out, HK2.out⟩⟩
          case measure => simp [RowKit.intOf]
        · have f0 := HBc2.out.f 0
          have f1 := HBc2.out.f 1
          have f2 := HBc2.out.f 2
          have f3 := HBc2.out.f 3
          go_wp2_with fail
          go_roundw
          case rel => exact ⟨4, by omega, by omega, by go_num, Lib.hid ⟨(⟨x3, y3, nx, ny, t3⟩ : Tw), by rw [show bsK (⟨px, py, x0, y0, t0⟩ : Tw) (⟨qx, qy, x1, y1, t1⟩ : Tw) (⟨x2, y2, mx, my, t2⟩ : Tw) (⟨x3, y3, nx, ny, t3⟩ : Tw) 4 = pk (bsK (⟨px, py, x0, y0, t0⟩ : Tw) (⟨qx, qy, x1, y1, t1⟩ : Tw) (⟨x2, y2, mx, my, t2⟩ : Tw) (⟨x3, y3, nx, ny, t3⟩ : Tw) 3) (⟨x3, y3, nx, ny, t3⟩ : Tw) from rfl, ← HBe.out]; exact (pk_less (v := (⟨x3, y3, nx, ny, t3⟩ : Tw)) HZ.out).symm, G3.out, HBc2.out.set (⟨x3, y3, nx, ny, t3⟩ : Tw), kep_set (kep_set (kep_set (kep_set HK2.out (Nat.le_refl _) _) (Nat.le_refl _) _) (Nat.le_refl _) _) (Nat.le_refl _) _⟩⟩
          case measure => simp [RowKit.intOf]
    · obtain rfl : k = 4 := by omega
      have HR2 := Lib.hid (HR1.out.kep HK.out)
      have r0 := HR2.out.c0
      have r1 := HR2.out.c1
      have r2 := HR2.out.c2
      have r3 := HR2.out.c3
      have f0 := HR2.out.f 0
      have f1 := HR2.out.f 1
      have f2 := HR2.out.f 2
      have f3 := HR2.out.f 3
      have b0 := HBc.out.c0
      have b1 := HBc.out.c1
      have b2 := HBc.out.c2
      have b3 := HBc.out.c3
      have gg := kep_next (kep_next K0.out K1.out) HK.out
      go_wp2_with fail
      exact bodyPost_ret (v := .agg #[.int .i32 B.a, .int .i32 B.b, .int .i32 B.c, .int .i32 B.d]) (by simp [results, Try.results37, go_sem, r0, r1, r2, r3]) rfl ⟨by rw [← HBe.out], by repeat first | exact gg | refine kep_set ?_ (by first | (simp; done) | (simp; omega)) _⟩
theorem rch {px py qx qy mx my nx ny : Int} (h : sgB px py qx qy mx my nx ny = true) : RCh px py qx qy mx my nx ny (chs px py qx qy mx my nx ny) := by
  obtain ⟨h0, h1, h2, h3⟩ := sg_rg h
  obtain ⟨g0, g1, g2, g3⟩ := sg_good h
  exact rch_go (Lib.hid (rneF h0)) (Lib.hid (rneF h1)) (Lib.hid (rneF h2)) (Lib.hid (rneF h3)) (Lib.hid g0) (Lib.hid g1) (Lib.hid g2) (Lib.hid g3)
end Go.Proofs.Ytlcenopebgkjgaa
