import Derived.Test.YtangalkbjochjaaGreatDoorJ18PointRef
import Derived.Deep.DeepCutAuto
import Derived.Deep.QuietTactic
import Derived.BigQuiet
import Derived.Test.YtangalkbjochjaaGreatDoorJ02Seq
import Derived.Test.YtangalkbjochjaaGreatDoorJ01Bodies

/-! J19SegRef2: SegRef2, ConMath. -/

section
/-
  Package segment: the reference's Chosen.
-/
namespace Go.Proofs.YtangalkbjochjaaGreatDoor
open Go.RowKit Go.Lib

set_option maxRecDepth 100000 in
set_option maxHeartbeats 8000000 in
theorem rch_go {px py qx qy mx my nx ny x0 y0 x1 y1 x2 y2 x3 y3 t0 t1 t2 t3 : Int} (N0 : Hid (RNe mx my nx ny px py x0 y0)) (N1 : Hid (RNe mx my nx ny qx qy x1 y1)) (N2 : Hid (RNe px py qx qy mx my x2 y2)) (N3 : Hid (RNe px py qx qy nx ny x3 y3))
    (G0 : Hid (Good (⟨px, py, x0, y0, t0⟩ : Tw))) (G1 : Hid (Good (⟨qx, qy, x1, y1, t1⟩ : Tw))) (G2 : Hid (Good (⟨x2, y2, mx, my, t2⟩ : Tw))) (G3 : Hid (Good (⟨x3, y3, nx, ny, t3⟩ : Tw))) : RCh px py qx qy mx my nx ny (bsK (⟨px, py, x0, y0, t0⟩ : Tw) (⟨qx, qy, x1, y1, t1⟩ : Tw) (⟨x2, y2, mx, my, t2⟩ : Tw) (⟨x3, y3, nx, ny, t3⟩ : Tw) 4) := fun w => by
  go_enter Tryz.func38, Tryz.ntmps38
  go_wp2_with fail
  obtain ⟨W0, hW0⟩ : ∃ z9, z9 = ((((w.alloc (.cells #[.int .i32 px, .int .i32 py] 33)).alloc (.cells #[.int .i32 qx, .int .i32 qy] 33)).alloc (.cells #[.int .i32 mx, .int .i32 my] 33)).alloc (.cells #[.int .i32 nx, .int .i32 ny] 33)).alloc (.cells #[.int .i32 0, .int .i32 0, .int .i32 0, .int .i32 0] 63) := ⟨_, rfl⟩
  rw [← hW0]
  have K0 := Lib.hid (show Kep w.heap.size w W0 by rw [hW0]; exact (kep_more (kep_more (kep_more (kep_more (kep_more (Kep.refl _ _) _) _) _) _) _))
  have HR : Hid (Bc W0 (w.heap.size + 1 + 1 + 1 + 1) ⟨0, 0, 0, 0, 0⟩) := Lib.hid (by
    rw [hW0]
    exact ⟨by rw [World.cell?_alloc_at _ _ _ _ (by simp)]; rfl, by rw [World.cell?_alloc_at _ _ _ _ (by simp)]; rfl, by rw [World.cell?_alloc_at _ _ _ _ (by simp)]; rfl, by rw [World.cell?_alloc_at _ _ _ _ (by simp)]; rfl, fun j => by rw [World.frozen?_alloc_at _ _ _ _ (by simp)]⟩)
  have p0 : W0.cell? ⟨w.heap.size, 0, none⟩ = some (.int .i32 px) := by rw [hW0]; (repeat (first | rw [World.cell?_alloc_past _ _ _ (by first | (simp; done) | (simp; omega))])); rw [World.cell?_alloc_at _ _ _ _ (by simp)]; rfl
  have p1 : W0.cell? ⟨w.heap.size, 1, none⟩ = some (.int .i32 py) := by rw [hW0]; (repeat (first | rw [World.cell?_alloc_past _ _ _ (by first | (simp; done) | (simp; omega))])); rw [World.cell?_alloc_at _ _ _ _ (by simp)]; rfl
  have q0 : W0.cell? ⟨w.heap.size + 1, 0, none⟩ = some (.int .i32 qx) := by rw [hW0]; (repeat (first | rw [World.cell?_alloc_past _ _ _ (by first | (simp; done) | (simp; omega))])); rw [World.cell?_alloc_at _ _ _ _ (by simp)]; rfl
  have q1 : W0.cell? ⟨w.heap.size + 1, 1, none⟩ = some (.int .i32 qy) := by rw [hW0]; (repeat (first | rw [World.cell?_alloc_past _ _ _ (by first | (simp; done) | (simp; omega))])); rw [World.cell?_alloc_at _ _ _ _ (by simp)]; rfl
  have m0 : W0.cell? ⟨w.heap.size + 1 + 1, 0, none⟩ = some (.int .i32 mx) := by rw [hW0]; (repeat (first | rw [World.cell?_alloc_past _ _ _ (by first | (simp; done) | (simp; omega))])); rw [World.cell?_alloc_at _ _ _ _ (by simp)]; rfl
  have m1 : W0.cell? ⟨w.heap.size + 1 + 1, 1, none⟩ = some (.int .i32 my) := by rw [hW0]; (repeat (first | rw [World.cell?_alloc_past _ _ _ (by first | (simp; done) | (simp; omega))])); rw [World.cell?_alloc_at _ _ _ _ (by simp)]; rfl
  have n0 : W0.cell? ⟨w.heap.size + 1 + 1 + 1, 0, none⟩ = some (.int .i32 nx) := by rw [hW0]; (repeat (first | rw [World.cell?_alloc_past _ _ _ (by first | (simp; done) | (simp; omega))])); rw [World.cell?_alloc_at _ _ _ _ (by simp)]; rfl
  have n1 : W0.cell? ⟨w.heap.size + 1 + 1 + 1, 1, none⟩ = some (.int .i32 ny) := by rw [hW0]; (repeat (first | rw [World.cell?_alloc_past _ _ _ (by first | (simp; done) | (simp; omega))])); rw [World.cell?_alloc_at _ _ _ _ (by simp)]; rfl
  clear hW0
  refine wp_region_noPanic ?_
  refine wp_region_held_drew (S := (fun w' => w'.cell? ⟨w.heap.size, 0, none⟩ = some (.int .i32 px) ∧ w'.cell? ⟨w.heap.size, 1, none⟩ = some (.int .i32 py) ∧ w'.cell? ⟨w.heap.size + 1, 0, none⟩ = some (.int .i32 qx) ∧ w'.cell? ⟨w.heap.size + 1, 1, none⟩ = some (.int .i32 qy) ∧ w'.cell? ⟨w.heap.size + 1 + 1, 0, none⟩ = some (.int .i32 mx) ∧ w'.cell? ⟨w.heap.size + 1 + 1, 1, none⟩ = some (.int .i32 my) ∧ w'.cell? ⟨w.heap.size + 1 + 1 + 1, 0, none⟩ = some (.int .i32 nx) ∧ w'.cell? ⟨w.heap.size + 1 + 1 + 1, 1, none⟩ = some (.int .i32 ny) ∧ Kep W0.heap.size W0 w')) (by kernel_rfl) (⟨by rw [World.cell?_drew]; exact p0, by rw [World.cell?_drew]; exact p1, by rw [World.cell?_drew]; exact q0, by rw [World.cell?_drew]; exact q1, by rw [World.cell?_drew]; exact m0, by rw [World.cell?_drew]; exact m1, by rw [World.cell?_drew]; exact n0, by rw [World.cell?_drew]; exact n1, kep_drew (Kep.refl _ _)⟩) (fun hH => ?_)
  refine rtk 0 (oi := ⟨some 12, .load 33 (.tmp 4), _, _, _, none⟩) (v := ?_) rfl ?_ hH ?_
  rotate_left
  · (intro w hSw; (try dsimp only at hSw); go_simp; (try with_reducible rfl))
  refine rtk 1 (oi := ⟨some 13, .load 33 (.tmp 6), _, _, _, none⟩) (v := ?_) rfl ?_ hH ?_
  rotate_left
  · (intro w hSw; (try dsimp only at hSw); go_simp; (try with_reducible rfl))
  refine rtk 2 (oi := ⟨some 14, .load 33 (.tmp 7), _, _, _, none⟩) (v := ?_) rfl ?_ hH ?_
  rotate_left
  · (intro w hSw; (try dsimp only at hSw); go_simp; (try with_reducible rfl))
  refine rtk 3 (oi := ⟨some 15, .load 33 (.tmp 4), _, _, _, none⟩) (v := ?_) rfl ?_ hH ?_
  rotate_left
  · (intro w hSw; (try dsimp only at hSw); go_simp; (try with_reducible rfl))
  try simp only [Act.put, List.setIfInBounds_toArray, List.set_cons_zero, List.set_cons_succ]
  refine rtk 6 (oi := ⟨some 18, .load 33 (.tmp 5), _, _, _, none⟩) (v := ?_) rfl ?_ hH ?_
  rotate_left
  · (intro w hSw; (try dsimp only at hSw); go_simp; (try with_reducible rfl))
  refine rtk 7 (oi := ⟨some 19, .load 33 (.tmp 6), _, _, _, none⟩) (v := ?_) rfl ?_ hH ?_
  rotate_left
  · (intro w hSw; (try dsimp only at hSw); go_simp; (try with_reducible rfl))
  refine rtk 8 (oi := ⟨some 20, .load 33 (.tmp 7), _, _, _, none⟩) (v := ?_) rfl ?_ hH ?_
  rotate_left
  · (intro w hSw; (try dsimp only at hSw); go_simp; (try with_reducible rfl))
  refine rtk 9 (oi := ⟨some 21, .load 33 (.tmp 5), _, _, _, none⟩) (v := ?_) rfl ?_ hH ?_
  rotate_left
  · (intro w hSw; (try dsimp only at hSw); go_simp; (try with_reducible rfl))
  try simp only [Act.put, List.setIfInBounds_toArray, List.set_cons_zero, List.set_cons_succ]
  refine rtk 12 (oi := ⟨some 24, .load 33 (.tmp 4), _, _, _, none⟩) (v := ?_) rfl ?_ hH ?_
  rotate_left
  · (intro w hSw; (try dsimp only at hSw); go_simp; (try with_reducible rfl))
  refine rtk 13 (oi := ⟨some 25, .load 33 (.tmp 5), _, _, _, none⟩) (v := ?_) rfl ?_ hH ?_
  rotate_left
  · (intro w hSw; (try dsimp only at hSw); go_simp; (try with_reducible rfl))
  refine rtk 14 (oi := ⟨some 26, .load 33 (.tmp 6), _, _, _, none⟩) (v := ?_) rfl ?_ hH ?_
  rotate_left
  · (intro w hSw; (try dsimp only at hSw); go_simp; (try with_reducible rfl))
  refine rtk 16 (oi := ⟨some 28, .load 33 (.tmp 6), _, _, _, none⟩) (v := ?_) rfl ?_ hH ?_
  rotate_left
  · (intro w hSw; (try dsimp only at hSw); go_simp; (try with_reducible rfl))
  try simp only [Act.put, List.setIfInBounds_toArray, List.set_cons_zero, List.set_cons_succ]
  refine rtk 18 (oi := ⟨some 30, .load 33 (.tmp 4), _, _, _, none⟩) (v := ?_) rfl ?_ hH ?_
  rotate_left
  · (intro w hSw; (try dsimp only at hSw); go_simp; (try with_reducible rfl))
  refine rtk 19 (oi := ⟨some 31, .load 33 (.tmp 5), _, _, _, none⟩) (v := ?_) rfl ?_ hH ?_
  rotate_left
  · (intro w hSw; (try dsimp only at hSw); go_simp; (try with_reducible rfl))
  refine rtk 20 (oi := ⟨some 32, .load 33 (.tmp 7), _, _, _, none⟩) (v := ?_) rfl ?_ hH ?_
  rotate_left
  · (intro w hSw; (try dsimp only at hSw); go_simp; (try with_reducible rfl))
  refine rtk 22 (oi := ⟨some 34, .load 33 (.tmp 7), _, _, _, none⟩) (v := ?_) rfl ?_ hH ?_
  rotate_left
  · (intro w hSw; (try dsimp only at hSw); go_simp; (try with_reducible rfl))
  try simp only [Act.put, List.setIfInBounds_toArray, List.set_cons_zero, List.set_cons_succ]
  refine wpAnyH_ready (rs := [4]) (by kernel_rfl) (by simp) ?_
  refine AllReadyH.cons (o := ⟨some 16, .call { callee := .value (.func 59), args := #[.tmp 13, .tmp 14, .tmp 15], argTypes := #[33, 33, 33] }, _, _, _, none⟩) rfl (fun K hK => ?_) AllReadyH.nil
  go_simp
  (with_reducible refine (N0.out _).mono ?_); rintro e v1_4 ⟨rfl, g⟩
  refine hK.out _ _ (by (try dsimp only); (go_split_ands; exact ⟨Kep.all g (by assumption), Kep.all g (by assumption), Kep.all g (by assumption), Kep.all g (by assumption), Kep.all g (by assumption), Kep.all g (by assumption), Kep.all g (by assumption), Kep.all g (by assumption), kep_next (by assumption) g⟩)) (fun hH2 => ?_)
  clear hK K hH; have hH := hH2; clear hH2
  refine rtk 5 (oi := ⟨some 17, .build 63 #[(0, .tmp 12), (1, .tmp 16)], _, _, _, none⟩) (v := ?_) rfl ?_ hH ?_
  rotate_left
  · (intro w hSw; (try dsimp only at hSw); go_simp; (try with_reducible rfl))
  try simp only [Act.put, List.setIfInBounds_toArray, List.set_cons_zero, List.set_cons_succ]
  refine wpAnyH_ready (rs := [10]) (by kernel_rfl) (by simp) ?_
  refine AllReadyH.cons (o := ⟨some 22, .call { callee := .value (.func 59), args := #[.tmp 19, .tmp 20, .tmp 21], argTypes := #[33, 33, 33] }, _, _, _, none⟩) rfl (fun K hK => ?_) AllReadyH.nil
  go_simp
  (with_reducible refine (N1.out _).mono ?_); rintro e v1_10 ⟨rfl, g⟩
  refine hK.out _ _ (by (try dsimp only); (go_split_ands; exact ⟨Kep.all g (by assumption), Kep.all g (by assumption), Kep.all g (by assumption), Kep.all g (by assumption), Kep.all g (by assumption), Kep.all g (by assumption), Kep.all g (by assumption), Kep.all g (by assumption), kep_next (by assumption) g⟩)) (fun hH2 => ?_)
  clear hK K hH; have hH := hH2; clear hH2
  refine rtk 11 (oi := ⟨some 23, .build 63 #[(0, .tmp 18), (1, .tmp 22)], _, _, _, none⟩) (v := ?_) rfl ?_ hH ?_
  rotate_left
  · (intro w hSw; (try dsimp only at hSw); go_simp; (try with_reducible rfl))
  try simp only [Act.put, List.setIfInBounds_toArray, List.set_cons_zero, List.set_cons_succ]
  refine wpAnyH_ready (rs := [15]) (by kernel_rfl) (by simp) ?_
  refine AllReadyH.cons (o := ⟨some 27, .call { callee := .value (.func 59), args := #[.tmp 24, .tmp 25, .tmp 26], argTypes := #[33, 33, 33] }, _, _, _, none⟩) rfl (fun K hK => ?_) AllReadyH.nil
  go_simp
  (with_reducible refine (N2.out _).mono ?_); rintro e v1_15 ⟨rfl, g⟩
  refine hK.out _ _ (by (try dsimp only); (go_split_ands; exact ⟨Kep.all g (by assumption), Kep.all g (by assumption), Kep.all g (by assumption), Kep.all g (by assumption), Kep.all g (by assumption), Kep.all g (by assumption), Kep.all g (by assumption), Kep.all g (by assumption), kep_next (by assumption) g⟩)) (fun hH2 => ?_)
  clear hK K hH; have hH := hH2; clear hH2
  refine rtk 17 (oi := ⟨some 29, .build 63 #[(0, .tmp 27), (1, .tmp 28)], _, _, _, none⟩) (v := ?_) rfl ?_ hH ?_
  rotate_left
  · (intro w hSw; (try dsimp only at hSw); go_simp; (try with_reducible rfl))
  try simp only [Act.put, List.setIfInBounds_toArray, List.set_cons_zero, List.set_cons_succ]
  refine wpAnyH_ready (rs := [21]) (by kernel_rfl) (by simp) ?_
  refine AllReadyH.cons (o := ⟨some 33, .call { callee := .value (.func 59), args := #[.tmp 30, .tmp 31, .tmp 32], argTypes := #[33, 33, 33] }, _, _, _, none⟩) rfl (fun K hK => ?_) AllReadyH.nil
  go_simp
  (with_reducible refine (N3.out _).mono ?_); rintro e v1_21 ⟨rfl, g⟩
  refine hK.out _ _ (by (try dsimp only); (go_split_ands; exact ⟨Kep.all g (by assumption), Kep.all g (by assumption), Kep.all g (by assumption), Kep.all g (by assumption), Kep.all g (by assumption), Kep.all g (by assumption), Kep.all g (by assumption), Kep.all g (by assumption), kep_next (by assumption) g⟩)) (fun hH2 => ?_)
  clear hK K hH; have hH := hH2; clear hH2
  refine rtk 23 (oi := ⟨some 35, .build 63 #[(0, .tmp 33), (1, .tmp 34)], _, _, _, none⟩) (v := ?_) rfl ?_ hH ?_
  rotate_left
  · (intro w hSw; (try dsimp only at hSw); go_simp; (try with_reducible rfl))
  try simp only [Act.put, List.setIfInBounds_toArray, List.set_cons_zero, List.set_cons_succ]
  refine wpAnyH_ready (rs := [24]) (by kernel_rfl) (by simp) ?_
  refine AllReadyH.cons (o := ⟨some 36, .buildSlice 108 4 #[(0, .tmp 17), (1, .tmp 23), (2, .tmp 29), (3, .tmp 35)], _, _, _, none⟩) rfl (fun K hK => ?_) AllReadyH.nil
  go_simp
  refine hK.out _ _ (by (try dsimp only); (go_split_ands; exact ⟨Kep.all (kep_more (Kep.refl _ _) _) (by assumption), Kep.all (kep_more (Kep.refl _ _) _) (by assumption), Kep.all (kep_more (Kep.refl _ _) _) (by assumption), Kep.all (kep_more (Kep.refl _ _) _) (by assumption), Kep.all (kep_more (Kep.refl _ _) _) (by assumption), Kep.all (kep_more (Kep.refl _ _) _) (by assumption), Kep.all (kep_more (Kep.refl _ _) _) (by assumption), Kep.all (kep_more (Kep.refl _ _) _) (by assumption), kep_more (by assumption) _⟩)) (fun hH2 => ?_)
  clear hK K hH; have hH := hH2; clear hH2
  refine rtk 25 (oi := ⟨some 9, .assign (.tmp 36), _, _, _, none⟩) (v := ?_) rfl ?_ hH ?_
  rotate_left
  · (intro w hSw; (try dsimp only at hSw); go_simp; (try with_reducible rfl))
  try simp only [Act.put, List.setIfInBounds_toArray, List.set_cons_zero, List.set_cons_succ]
  refine wpAnyH_done (by kernel_rfl) ?_ _
  refine NoPanic.normal ?_
  clear p0 p1 q0 q1 m0 m1 n0 n1
  obtain ⟨p0, p1, q0, q1, m0, m1, n0, n1, gg⟩ := hH
  obtain ⟨V, hV⟩ : ∃ z9, z9 = v1_21 := ⟨_, rfl⟩
  rw [← hV] at gg ⊢
  clear p0 p1 q0 q1 m0 m1 n0 n1 hV
  obtain ⟨W1, hW1⟩ : ∃ z9, z9 = V.alloc (.cells #[.int .i32 px, .int .i32 py, .int .i32 x0, .int .i32 y0, .int .i32 qx, .int .i32 qy, .int .i32 x1, .int .i32 y1, .int .i32 x2, .int .i32 y2, .int .i32 mx, .int .i32 my, .int .i32 x3, .int .i32 y3, .int .i32 nx, .int .i32 ny] 63) := ⟨_, rfl⟩
  rw [← hW1] at gg ⊢
  have KV := Lib.hid (show Kep V.heap.size V W1 by rw [hW1]; exact kep_more (Kep.refl _ _) _)
  have H0_0 : Hid (W1.cell? ⟨V.heap.size, 0, none⟩ = some (.int .i32 px)) := Lib.hid (by rw [hW1, World.cell?_alloc_at _ _ _ _ (by simp)]; rfl)
  have H0_1 : Hid (W1.cell? ⟨V.heap.size, 1, none⟩ = some (.int .i32 py)) := Lib.hid (by rw [hW1, World.cell?_alloc_at _ _ _ _ (by simp)]; rfl)
  have H0_2 : Hid (W1.cell? ⟨V.heap.size, 2, none⟩ = some (.int .i32 x0)) := Lib.hid (by rw [hW1, World.cell?_alloc_at _ _ _ _ (by simp)]; rfl)
  have H0_3 : Hid (W1.cell? ⟨V.heap.size, 3, none⟩ = some (.int .i32 y0)) := Lib.hid (by rw [hW1, World.cell?_alloc_at _ _ _ _ (by simp)]; rfl)
  have H1_0 : Hid (W1.cell? ⟨V.heap.size, 4, none⟩ = some (.int .i32 qx)) := Lib.hid (by rw [hW1, World.cell?_alloc_at _ _ _ _ (by simp)]; rfl)
  have H1_1 : Hid (W1.cell? ⟨V.heap.size, 5, none⟩ = some (.int .i32 qy)) := Lib.hid (by rw [hW1, World.cell?_alloc_at _ _ _ _ (by simp)]; rfl)
  have H1_2 : Hid (W1.cell? ⟨V.heap.size, 6, none⟩ = some (.int .i32 x1)) := Lib.hid (by rw [hW1, World.cell?_alloc_at _ _ _ _ (by simp)]; rfl)
  have H1_3 : Hid (W1.cell? ⟨V.heap.size, 7, none⟩ = some (.int .i32 y1)) := Lib.hid (by rw [hW1, World.cell?_alloc_at _ _ _ _ (by simp)]; rfl)
  have H2_0 : Hid (W1.cell? ⟨V.heap.size, 8, none⟩ = some (.int .i32 x2)) := Lib.hid (by rw [hW1, World.cell?_alloc_at _ _ _ _ (by simp)]; rfl)
  have H2_1 : Hid (W1.cell? ⟨V.heap.size, 9, none⟩ = some (.int .i32 y2)) := Lib.hid (by rw [hW1, World.cell?_alloc_at _ _ _ _ (by simp)]; rfl)
  have H2_2 : Hid (W1.cell? ⟨V.heap.size, 10, none⟩ = some (.int .i32 mx)) := Lib.hid (by rw [hW1, World.cell?_alloc_at _ _ _ _ (by simp)]; rfl)
  have H2_3 : Hid (W1.cell? ⟨V.heap.size, 11, none⟩ = some (.int .i32 my)) := Lib.hid (by rw [hW1, World.cell?_alloc_at _ _ _ _ (by simp)]; rfl)
  have H3_0 : Hid (W1.cell? ⟨V.heap.size, 12, none⟩ = some (.int .i32 x3)) := Lib.hid (by rw [hW1, World.cell?_alloc_at _ _ _ _ (by simp)]; rfl)
  have H3_1 : Hid (W1.cell? ⟨V.heap.size, 13, none⟩ = some (.int .i32 y3)) := Lib.hid (by rw [hW1, World.cell?_alloc_at _ _ _ _ (by simp)]; rfl)
  have H3_2 : Hid (W1.cell? ⟨V.heap.size, 14, none⟩ = some (.int .i32 nx)) := Lib.hid (by rw [hW1, World.cell?_alloc_at _ _ _ _ (by simp)]; rfl)
  have H3_3 : Hid (W1.cell? ⟨V.heap.size, 15, none⟩ = some (.int .i32 ny)) := Lib.hid (by rw [hW1, World.cell?_alloc_at _ _ _ _ (by simp)]; rfl)
  have K1 := Lib.hid gg
  have HR1 := Lib.hid (HR.out.kep gg)
  clear gg hW1 HR
  have zr : w.heap.size + 1 + 1 + 1 + 1 < W1.heap.size := World.block_lt_of_cell? _ _ HR1.out.c0
  have l0 := H0_0.out; have l1 := H0_1.out; have l2 := H0_2.out; have l3 := H0_3.out; 
  go_wp2_with fail
  obtain ⟨W2, hW2⟩ : ∃ z9, z9 = W1.alloc (.cells #[.int .i32 px, .int .i32 py, .int .i32 x0, .int .i32 y0] 63) := ⟨_, rfl⟩
  rw [← hW2]
  have HB : Hid (Bc W2 W1.heap.size (⟨px, py, x0, y0, t0⟩ : Tw) ∧ Kep W1.heap.size W1 W2) := Lib.hid (by
    rw [hW2]
    exact ⟨⟨by rw [World.cell?_alloc_at _ _ _ _ (by simp)]; rfl, by rw [World.cell?_alloc_at _ _ _ _ (by simp)]; rfl, by rw [World.cell?_alloc_at _ _ _ _ (by simp)]; rfl, by rw [World.cell?_alloc_at _ _ _ _ (by simp)]; rfl, fun j => by rw [World.frozen?_alloc_at _ _ _ _ (by simp)]⟩, kep_more (Kep.refl _ _) _⟩)
  clear hW2 l0 l1 l2 l3
  go_loopw [11] (fun i wr => ∃ k : Nat, 1 ≤ k ∧ k ≤ 4 ∧ i = .int .i64 k ∧ Hid (∃ B, B = bsK (⟨px, py, x0, y0, t0⟩ : Tw) (⟨qx, qy, x1, y1, t1⟩ : Tw) (⟨x2, y2, mx, my, t2⟩ : Tw) (⟨x3, y3, nx, ny, t3⟩ : Tw) k ∧ Good B ∧ Bc wr W1.heap.size B ∧ Kep W1.heap.size W1 wr)) (fun i _ => 4 - (RowKit.intOf i).toNat)
  case atStart => exact ⟨1, by omega, by omega, rfl, Lib.hid ⟨_, rfl, G0.out, HB.out.1, HB.out.2⟩⟩
  case round =>
    obtain ⟨k, hk1, hk4, rfl, HP⟩ := hrel
    obtain ⟨B, hB, hg, hc, hk⟩ := HP.out
    have HBe := Lib.hid hB
    have HG := Lib.hid hg
    have HBc := Lib.hid hc
    have HK := Lib.hid hk
    have RB := Lib.hid hg.rd
    clear HP hB hg hc hk HB
    by_cases hlt : k < 4
    · rcases (show k = 1 ∨ k = 2 ∨ k = 3 by omega) with rfl | rfl | rfl
      · have RL := Lib.hid G1.out.rd
        dsimp only at RL
        obtain ⟨z, hz⟩ : ∃ z, decide (t1 < B.t) = z := ⟨_, rfl⟩
        have l0 := HK.out.all H1_0.out
        have l1 := HK.out.all H1_1.out
        have l2 := HK.out.all H1_2.out
        have l3 := HK.out.all H1_3.out
        have b0 := HBc.out.c0
        have b1 := HBc.out.c1
        have b2 := HBc.out.c2
        have b3 := HBc.out.c3
        go_wp2_with fail
        refine wp_region_noPanic ?_
        refine wp_region_held_drew (S := (fun w' => w'.cell? ⟨V.heap.size, 4, none⟩ = some (.int .i32 qx) ∧ w'.cell? ⟨V.heap.size, 5, none⟩ = some (.int .i32 qy) ∧ w'.cell? ⟨V.heap.size, 6, none⟩ = some (.int .i32 x1) ∧ w'.cell? ⟨V.heap.size, 7, none⟩ = some (.int .i32 y1) ∧ w'.cell? ⟨W1.heap.size, 0, none⟩ = some (.int .i32 B.a) ∧ w'.cell? ⟨W1.heap.size, 1, none⟩ = some (.int .i32 B.b) ∧ w'.cell? ⟨W1.heap.size, 2, none⟩ = some (.int .i32 B.c) ∧ w'.cell? ⟨W1.heap.size, 3, none⟩ = some (.int .i32 B.d) ∧ Kep wr.heap.size wr w')) (by kernel_rfl) (⟨by rw [World.cell?_drew]; exact l0, by rw [World.cell?_drew]; exact l1, by rw [World.cell?_drew]; exact l2, by rw [World.cell?_drew]; exact l3, by rw [World.cell?_drew]; exact b0, by rw [World.cell?_drew]; exact b1, by rw [World.cell?_drew]; exact b2, by rw [World.cell?_drew]; exact b3, kep_drew (Kep.refl _ _)⟩) (fun hH => ?_)
        refine rtk 0 (oi := ⟨some 46, .move (.tmp 9), _, _, _, none⟩) (v := ?_) rfl ?_ hH ?_
        rotate_left
        · (intro w hSw; (try dsimp only at hSw); go_simp; (try with_reducible rfl))
        refine rtk 1 (oi := ⟨some 47, .move (.tmp 11), _, _, _, none⟩) (v := ?_) rfl ?_ hH ?_
        rotate_left
        · (intro w hSw; (try dsimp only at hSw); go_simp; (try with_reducible rfl))
        refine rtk 2 (oi := ⟨some 48, .indexAddr 108 (.tmp 46) (.tmp 47), _, _, _, none⟩) (v := ?_) rfl ?_ hH ?_
        rotate_left
        · (intro w hSw; (try dsimp only at hSw); go_simp; (try with_reducible rfl))
        refine rtk 3 (oi := ⟨some 49, .load 63 (.tmp 48), _, _, _, none⟩) (v := ?_) rfl ?_ hH ?_
        rotate_left
        · (intro w hSw; (try dsimp only at hSw); go_simp; (try with_reducible rfl))
        try simp only [Act.put, List.setIfInBounds_toArray, List.set_cons_zero, List.set_cons_succ]
        refine rtk 5 (oi := ⟨some 51, .load 63 (.tmp 10), _, _, _, none⟩) (v := ?_) rfl ?_ hH ?_
        rotate_left
        · (intro w hSw; (try dsimp only at hSw); go_simp; (try with_reducible rfl))
        try simp only [Act.put, List.setIfInBounds_toArray, List.set_cons_zero, List.set_cons_succ]
        refine wpAnyH_ready (rs := [4]) (by kernel_rfl) (by simp) ?_
        refine AllReadyH.cons (o := ⟨some 50, .call { callee := .value (.func 26), args := #[.tmp 49], argTypes := #[63] }, _, _, _, none⟩) rfl (fun K hK => ?_) AllReadyH.nil
        go_simp
        (with_reducible refine (RL.out _).mono ?_); rintro e v6_4 ⟨rfl, g⟩
        refine hK.out _ _ (by (try dsimp only); (go_split_ands; exact ⟨Kep.all g (by assumption), Kep.all g (by assumption), Kep.all g (by assumption), Kep.all g (by assumption), Kep.all g (by assumption), Kep.all g (by assumption), Kep.all g (by assumption), Kep.all g (by assumption), kep_next (by assumption) g⟩)) (fun hH2 => ?_)
        clear hK K hH; have hH := hH2; clear hH2
        try simp only [Act.put, List.setIfInBounds_toArray, List.set_cons_zero, List.set_cons_succ]
        refine wpAnyH_ready (rs := [6]) (by kernel_rfl) (by simp) ?_
        refine AllReadyH.cons (o := ⟨some 52, .call { callee := .value (.func 26), args := #[.tmp 51], argTypes := #[63] }, _, _, _, none⟩) rfl (fun K hK => ?_) AllReadyH.nil
        go_simp
        (with_reducible refine (RB.out _).mono ?_); rintro e v6_6 ⟨rfl, g⟩
        refine hK.out _ _ (by (try dsimp only); (go_split_ands; exact ⟨Kep.all g (by assumption), Kep.all g (by assumption), Kep.all g (by assumption), Kep.all g (by assumption), Kep.all g (by assumption), Kep.all g (by assumption), Kep.all g (by assumption), Kep.all g (by assumption), kep_next (by assumption) g⟩)) (fun hH2 => ?_)
        clear hK K hH; have hH := hH2; clear hH2
        refine rtk 7 (oi := ⟨some 53, .binOp .lss 65 (.tmp 50) (.tmp 52) 65, _, _, _, none⟩) (v := ?_) rfl ?_ hH ?_
        rotate_left
        · (intro w hSw; (try dsimp only at hSw); go_simp; (try with_reducible rfl))
        try simp only [Act.put, List.setIfInBounds_toArray, List.set_cons_zero, List.set_cons_succ]
        refine wpAnyH_done (by kernel_rfl) ?_ _
        refine NoPanic.normal ?_
        clear l0 l1 l2 l3 b0 b1 b2 b3
        obtain ⟨l0, l1, l2, l3, b0, b1, b2, b3, gg⟩ := hH
        have HBc2 := Lib.hid (HBc.out.kep gg)
        have HK2 := Lib.hid (kep_next HK.out gg)
        have HZ := Lib.hid hz
        clear hz gg
        obtain ⟨wq, hwq⟩ : ∃ z9, z9 = v6_6 := ⟨_, rfl⟩
        rw [← hwq] at l0 l1 l2 l3 b0 b1 b2 b3 HBc2 HK2 ⊢
        clear hwq
        cases z
        · go_wp2_with fail
          go_roundw
          case rel => exact ⟨2, by omega, by omega, by go_num, Lib.hid ⟨B, by rw [show bsK (⟨px, py, x0, y0, t0⟩ : Tw) (⟨qx, qy, x1, y1, t1⟩ : Tw) (⟨x2, y2, mx, my, t2⟩ : Tw) (⟨x3, y3, nx, ny, t3⟩ : Tw) 2 = pk (bsK (⟨px, py, x0, y0, t0⟩ : Tw) (⟨qx, qy, x1, y1, t1⟩ : Tw) (⟨x2, y2, mx, my, t2⟩ : Tw) (⟨x3, y3, nx, ny, t3⟩ : Tw) 1) (⟨qx, qy, x1, y1, t1⟩ : Tw) from rfl, ← HBe.out]; exact (pk_not HZ.out).symm, HG.out, HBc2.out, HK2.out⟩⟩
          case measure => simp [RowKit.intOf]
        · have f0 := HBc2.out.f 0
          have f1 := HBc2.out.f 1
          have f2 := HBc2.out.f 2
          have f3 := HBc2.out.f 3
          go_wp2_with fail
          go_roundw
          case rel => exact ⟨2, by omega, by omega, by go_num, Lib.hid ⟨(⟨qx, qy, x1, y1, t1⟩ : Tw), by rw [show bsK (⟨px, py, x0, y0, t0⟩ : Tw) (⟨qx, qy, x1, y1, t1⟩ : Tw) (⟨x2, y2, mx, my, t2⟩ : Tw) (⟨x3, y3, nx, ny, t3⟩ : Tw) 2 = pk (bsK (⟨px, py, x0, y0, t0⟩ : Tw) (⟨qx, qy, x1, y1, t1⟩ : Tw) (⟨x2, y2, mx, my, t2⟩ : Tw) (⟨x3, y3, nx, ny, t3⟩ : Tw) 1) (⟨qx, qy, x1, y1, t1⟩ : Tw) from rfl, ← HBe.out]; exact (pk_less (v := (⟨qx, qy, x1, y1, t1⟩ : Tw)) HZ.out).symm, G1.out, HBc2.out.set (⟨qx, qy, x1, y1, t1⟩ : Tw), kep_set (kep_set (kep_set (kep_set HK2.out (Nat.le_refl _) _) (Nat.le_refl _) _) (Nat.le_refl _) _) (Nat.le_refl _) _⟩⟩
          case measure => simp [RowKit.intOf]
      · have RL := Lib.hid G2.out.rd
        dsimp only at RL
        obtain ⟨z, hz⟩ : ∃ z, decide (t2 < B.t) = z := ⟨_, rfl⟩
        have l0 := HK.out.all H2_0.out
        have l1 := HK.out.all H2_1.out
        have l2 := HK.out.all H2_2.out
        have l3 := HK.out.all H2_3.out
        have b0 := HBc.out.c0
        have b1 := HBc.out.c1
        have b2 := HBc.out.c2
        have b3 := HBc.out.c3
        go_wp2_with fail
        refine wp_region_noPanic ?_
        refine wp_region_held_drew (S := (fun w' => w'.cell? ⟨V.heap.size, 8, none⟩ = some (.int .i32 x2) ∧ w'.cell? ⟨V.heap.size, 9, none⟩ = some (.int .i32 y2) ∧ w'.cell? ⟨V.heap.size, 10, none⟩ = some (.int .i32 mx) ∧ w'.cell? ⟨V.heap.size, 11, none⟩ = some (.int .i32 my) ∧ w'.cell? ⟨W1.heap.size, 0, none⟩ = some (.int .i32 B.a) ∧ w'.cell? ⟨W1.heap.size, 1, none⟩ = some (.int .i32 B.b) ∧ w'.cell? ⟨W1.heap.size, 2, none⟩ = some (.int .i32 B.c) ∧ w'.cell? ⟨W1.heap.size, 3, none⟩ = some (.int .i32 B.d) ∧ Kep wr.heap.size wr w')) (by kernel_rfl) (⟨by rw [World.cell?_drew]; exact l0, by rw [World.cell?_drew]; exact l1, by rw [World.cell?_drew]; exact l2, by rw [World.cell?_drew]; exact l3, by rw [World.cell?_drew]; exact b0, by rw [World.cell?_drew]; exact b1, by rw [World.cell?_drew]; exact b2, by rw [World.cell?_drew]; exact b3, kep_drew (Kep.refl _ _)⟩) (fun hH => ?_)
        refine rtk 0 (oi := ⟨some 46, .move (.tmp 9), _, _, _, none⟩) (v := ?_) rfl ?_ hH ?_
        rotate_left
        · (intro w hSw; (try dsimp only at hSw); go_simp; (try with_reducible rfl))
        refine rtk 1 (oi := ⟨some 47, .move (.tmp 11), _, _, _, none⟩) (v := ?_) rfl ?_ hH ?_
        rotate_left
        · (intro w hSw; (try dsimp only at hSw); go_simp; (try with_reducible rfl))
        refine rtk 2 (oi := ⟨some 48, .indexAddr 108 (.tmp 46) (.tmp 47), _, _, _, none⟩) (v := ?_) rfl ?_ hH ?_
        rotate_left
        · (intro w hSw; (try dsimp only at hSw); go_simp; (try with_reducible rfl))
        refine rtk 3 (oi := ⟨some 49, .load 63 (.tmp 48), _, _, _, none⟩) (v := ?_) rfl ?_ hH ?_
        rotate_left
        · (intro w hSw; (try dsimp only at hSw); go_simp; (try with_reducible rfl))
        try simp only [Act.put, List.setIfInBounds_toArray, List.set_cons_zero, List.set_cons_succ]
        refine rtk 5 (oi := ⟨some 51, .load 63 (.tmp 10), _, _, _, none⟩) (v := ?_) rfl ?_ hH ?_
        rotate_left
        · (intro w hSw; (try dsimp only at hSw); go_simp; (try with_reducible rfl))
        try simp only [Act.put, List.setIfInBounds_toArray, List.set_cons_zero, List.set_cons_succ]
        refine wpAnyH_ready (rs := [4]) (by kernel_rfl) (by simp) ?_
        refine AllReadyH.cons (o := ⟨some 50, .call { callee := .value (.func 26), args := #[.tmp 49], argTypes := #[63] }, _, _, _, none⟩) rfl (fun K hK => ?_) AllReadyH.nil
        go_simp
        (with_reducible refine (RL.out _).mono ?_); rintro e v6_4 ⟨rfl, g⟩
        refine hK.out _ _ (by (try dsimp only); (go_split_ands; exact ⟨Kep.all g (by assumption), Kep.all g (by assumption), Kep.all g (by assumption), Kep.all g (by assumption), Kep.all g (by assumption), Kep.all g (by assumption), Kep.all g (by assumption), Kep.all g (by assumption), kep_next (by assumption) g⟩)) (fun hH2 => ?_)
        clear hK K hH; have hH := hH2; clear hH2
        try simp only [Act.put, List.setIfInBounds_toArray, List.set_cons_zero, List.set_cons_succ]
        refine wpAnyH_ready (rs := [6]) (by kernel_rfl) (by simp) ?_
        refine AllReadyH.cons (o := ⟨some 52, .call { callee := .value (.func 26), args := #[.tmp 51], argTypes := #[63] }, _, _, _, none⟩) rfl (fun K hK => ?_) AllReadyH.nil
        go_simp
        (with_reducible refine (RB.out _).mono ?_); rintro e v6_6 ⟨rfl, g⟩
        refine hK.out _ _ (by (try dsimp only); (go_split_ands; exact ⟨Kep.all g (by assumption), Kep.all g (by assumption), Kep.all g (by assumption), Kep.all g (by assumption), Kep.all g (by assumption), Kep.all g (by assumption), Kep.all g (by assumption), Kep.all g (by assumption), kep_next (by assumption) g⟩)) (fun hH2 => ?_)
        clear hK K hH; have hH := hH2; clear hH2
        refine rtk 7 (oi := ⟨some 53, .binOp .lss 65 (.tmp 50) (.tmp 52) 65, _, _, _, none⟩) (v := ?_) rfl ?_ hH ?_
        rotate_left
        · (intro w hSw; (try dsimp only at hSw); go_simp; (try with_reducible rfl))
        try simp only [Act.put, List.setIfInBounds_toArray, List.set_cons_zero, List.set_cons_succ]
        refine wpAnyH_done (by kernel_rfl) ?_ _
        refine NoPanic.normal ?_
        clear l0 l1 l2 l3 b0 b1 b2 b3
        obtain ⟨l0, l1, l2, l3, b0, b1, b2, b3, gg⟩ := hH
        have HBc2 := Lib.hid (HBc.out.kep gg)
        have HK2 := Lib.hid (kep_next HK.out gg)
        have HZ := Lib.hid hz
        clear hz gg
        obtain ⟨wq, hwq⟩ : ∃ z9, z9 = v6_6 := ⟨_, rfl⟩
        rw [← hwq] at l0 l1 l2 l3 b0 b1 b2 b3 HBc2 HK2 ⊢
        clear hwq
        cases z
        · go_wp2_with fail
          go_roundw
          case rel => exact ⟨3, by omega, by omega, by go_num, Lib.hid ⟨B, by rw [show bsK (⟨px, py, x0, y0, t0⟩ : Tw) (⟨qx, qy, x1, y1, t1⟩ : Tw) (⟨x2, y2, mx, my, t2⟩ : Tw) (⟨x3, y3, nx, ny, t3⟩ : Tw) 3 = pk (bsK (⟨px, py, x0, y0, t0⟩ : Tw) (⟨qx, qy, x1, y1, t1⟩ : Tw) (⟨x2, y2, mx, my, t2⟩ : Tw) (⟨x3, y3, nx, ny, t3⟩ : Tw) 2) (⟨x2, y2, mx, my, t2⟩ : Tw) from rfl, ← HBe.out]; exact (pk_not HZ.out).symm, HG.out, HBc2.out, HK2.out⟩⟩
          case measure => simp [RowKit.intOf]
        · have f0 := HBc2.out.f 0
          have f1 := HBc2.out.f 1
          have f2 := HBc2.out.f 2
          have f3 := HBc2.out.f 3
          go_wp2_with fail
          go_roundw
          case rel => exact ⟨3, by omega, by omega, by go_num, Lib.hid ⟨(⟨x2, y2, mx, my, t2⟩ : Tw), by rw [show bsK (⟨px, py, x0, y0, t0⟩ : Tw) (⟨qx, qy, x1, y1, t1⟩ : Tw) (⟨x2, y2, mx, my, t2⟩ : Tw) (⟨x3, y3, nx, ny, t3⟩ : Tw) 3 = pk (bsK (⟨px, py, x0, y0, t0⟩ : Tw) (⟨qx, qy, x1, y1, t1⟩ : Tw) (⟨x2, y2, mx, my, t2⟩ : Tw) (⟨x3, y3, nx, ny, t3⟩ : Tw) 2) (⟨x2, y2, mx, my, t2⟩ : Tw) from rfl, ← HBe.out]; exact (pk_less (v := (⟨x2, y2, mx, my, t2⟩ : Tw)) HZ.out).symm, G2.out, HBc2.out.set (⟨x2, y2, mx, my, t2⟩ : Tw), kep_set (kep_set (kep_set (kep_set HK2.out (Nat.le_refl _) _) (Nat.le_refl _) _) (Nat.le_refl _) _) (Nat.le_refl _) _⟩⟩
          case measure => simp [RowKit.intOf]
      · have RL := Lib.hid G3.out.rd
        dsimp only at RL
        obtain ⟨z, hz⟩ : ∃ z, decide (t3 < B.t) = z := ⟨_, rfl⟩
        have l0 := HK.out.all H3_0.out
        have l1 := HK.out.all H3_1.out
        have l2 := HK.out.all H3_2.out
        have l3 := HK.out.all H3_3.out
        have b0 := HBc.out.c0
        have b1 := HBc.out.c1
        have b2 := HBc.out.c2
        have b3 := HBc.out.c3
        go_wp2_with fail
        refine wp_region_noPanic ?_
        refine wp_region_held_drew (S := (fun w' => w'.cell? ⟨V.heap.size, 12, none⟩ = some (.int .i32 x3) ∧ w'.cell? ⟨V.heap.size, 13, none⟩ = some (.int .i32 y3) ∧ w'.cell? ⟨V.heap.size, 14, none⟩ = some (.int .i32 nx) ∧ w'.cell? ⟨V.heap.size, 15, none⟩ = some (.int .i32 ny) ∧ w'.cell? ⟨W1.heap.size, 0, none⟩ = some (.int .i32 B.a) ∧ w'.cell? ⟨W1.heap.size, 1, none⟩ = some (.int .i32 B.b) ∧ w'.cell? ⟨W1.heap.size, 2, none⟩ = some (.int .i32 B.c) ∧ w'.cell? ⟨W1.heap.size, 3, none⟩ = some (.int .i32 B.d) ∧ Kep wr.heap.size wr w')) (by kernel_rfl) (⟨by rw [World.cell?_drew]; exact l0, by rw [World.cell?_drew]; exact l1, by rw [World.cell?_drew]; exact l2, by rw [World.cell?_drew]; exact l3, by rw [World.cell?_drew]; exact b0, by rw [World.cell?_drew]; exact b1, by rw [World.cell?_drew]; exact b2, by rw [World.cell?_drew]; exact b3, kep_drew (Kep.refl _ _)⟩) (fun hH => ?_)
        refine rtk 0 (oi := ⟨some 46, .move (.tmp 9), _, _, _, none⟩) (v := ?_) rfl ?_ hH ?_
        rotate_left
        · (intro w hSw; (try dsimp only at hSw); go_simp; (try with_reducible rfl))
        refine rtk 1 (oi := ⟨some 47, .move (.tmp 11), _, _, _, none⟩) (v := ?_) rfl ?_ hH ?_
        rotate_left
        · (intro w hSw; (try dsimp only at hSw); go_simp; (try with_reducible rfl))
        refine rtk 2 (oi := ⟨some 48, .indexAddr 108 (.tmp 46) (.tmp 47), _, _, _, none⟩) (v := ?_) rfl ?_ hH ?_
        rotate_left
        · (intro w hSw; (try dsimp only at hSw); go_simp; (try with_reducible rfl))
        refine rtk 3 (oi := ⟨some 49, .load 63 (.tmp 48), _, _, _, none⟩) (v := ?_) rfl ?_ hH ?_
        rotate_left
        · (intro w hSw; (try dsimp only at hSw); go_simp; (try with_reducible rfl))
        try simp only [Act.put, List.setIfInBounds_toArray, List.set_cons_zero, List.set_cons_succ]
        refine rtk 5 (oi := ⟨some 51, .load 63 (.tmp 10), _, _, _, none⟩) (v := ?_) rfl ?_ hH ?_
        rotate_left
        · (intro w hSw; (try dsimp only at hSw); go_simp; (try with_reducible rfl))
        try simp only [Act.put, List.setIfInBounds_toArray, List.set_cons_zero, List.set_cons_succ]
        refine wpAnyH_ready (rs := [4]) (by kernel_rfl) (by simp) ?_
        refine AllReadyH.cons (o := ⟨some 50, .call { callee := .value (.func 26), args := #[.tmp 49], argTypes := #[63] }, _, _, _, none⟩) rfl (fun K hK => ?_) AllReadyH.nil
        go_simp
        (with_reducible refine (RL.out _).mono ?_); rintro e v6_4 ⟨rfl, g⟩
        refine hK.out _ _ (by (try dsimp only); (go_split_ands; exact ⟨Kep.all g (by assumption), Kep.all g (by assumption), Kep.all g (by assumption), Kep.all g (by assumption), Kep.all g (by assumption), Kep.all g (by assumption), Kep.all g (by assumption), Kep.all g (by assumption), kep_next (by assumption) g⟩)) (fun hH2 => ?_)
        clear hK K hH; have hH := hH2; clear hH2
        try simp only [Act.put, List.setIfInBounds_toArray, List.set_cons_zero, List.set_cons_succ]
        refine wpAnyH_ready (rs := [6]) (by kernel_rfl) (by simp) ?_
        refine AllReadyH.cons (o := ⟨some 52, .call { callee := .value (.func 26), args := #[.tmp 51], argTypes := #[63] }, _, _, _, none⟩) rfl (fun K hK => ?_) AllReadyH.nil
        go_simp
        (with_reducible refine (RB.out _).mono ?_); rintro e v6_6 ⟨rfl, g⟩
        refine hK.out _ _ (by (try dsimp only); (go_split_ands; exact ⟨Kep.all g (by assumption), Kep.all g (by assumption), Kep.all g (by assumption), Kep.all g (by assumption), Kep.all g (by assumption), Kep.all g (by assumption), Kep.all g (by assumption), Kep.all g (by assumption), kep_next (by assumption) g⟩)) (fun hH2 => ?_)
        clear hK K hH; have hH := hH2; clear hH2
        refine rtk 7 (oi := ⟨some 53, .binOp .lss 65 (.tmp 50) (.tmp 52) 65, _, _, _, none⟩) (v := ?_) rfl ?_ hH ?_
        rotate_left
        · (intro w hSw; (try dsimp only at hSw); go_simp; (try with_reducible rfl))
        try simp only [Act.put, List.setIfInBounds_toArray, List.set_cons_zero, List.set_cons_succ]
        refine wpAnyH_done (by kernel_rfl) ?_ _
        refine NoPanic.normal ?_
        clear l0 l1 l2 l3 b0 b1 b2 b3
        obtain ⟨l0, l1, l2, l3, b0, b1, b2, b3, gg⟩ := hH
        have HBc2 := Lib.hid (HBc.out.kep gg)
        have HK2 := Lib.hid (kep_next HK.out gg)
        have HZ := Lib.hid hz
        clear hz gg
        obtain ⟨wq, hwq⟩ : ∃ z9, z9 = v6_6 := ⟨_, rfl⟩
        rw [← hwq] at l0 l1 l2 l3 b0 b1 b2 b3 HBc2 HK2 ⊢
        clear hwq
        cases z
        · go_wp2_with fail
          go_roundw
          case rel => exact ⟨4, by omega, by omega, by go_num, Lib.hid ⟨B, by rw [show bsK (⟨px, py, x0, y0, t0⟩ : Tw) (⟨qx, qy, x1, y1, t1⟩ : Tw) (⟨x2, y2, mx, my, t2⟩ : Tw) (⟨x3, y3, nx, ny, t3⟩ : Tw) 4 = pk (bsK (⟨px, py, x0, y0, t0⟩ : Tw) (⟨qx, qy, x1, y1, t1⟩ : Tw) (⟨x2, y2, mx, my, t2⟩ : Tw) (⟨x3, y3, nx, ny, t3⟩ : Tw) 3) (⟨x3, y3, nx, ny, t3⟩ : Tw) from rfl, ← HBe.out]; exact (pk_not HZ.out).symm, HG.out, HBc2.out, HK2.out⟩⟩
          case measure => simp [RowKit.intOf]
        · have f0 := HBc2.out.f 0
          have f1 := HBc2.out.f 1
          have f2 := HBc2.out.f 2
          have f3 := HBc2.out.f 3
          go_wp2_with fail
          go_roundw
          case rel => exact ⟨4, by omega, by omega, by go_num, Lib.hid ⟨(⟨x3, y3, nx, ny, t3⟩ : Tw), by rw [show bsK (⟨px, py, x0, y0, t0⟩ : Tw) (⟨qx, qy, x1, y1, t1⟩ : Tw) (⟨x2, y2, mx, my, t2⟩ : Tw) (⟨x3, y3, nx, ny, t3⟩ : Tw) 4 = pk (bsK (⟨px, py, x0, y0, t0⟩ : Tw) (⟨qx, qy, x1, y1, t1⟩ : Tw) (⟨x2, y2, mx, my, t2⟩ : Tw) (⟨x3, y3, nx, ny, t3⟩ : Tw) 3) (⟨x3, y3, nx, ny, t3⟩ : Tw) from rfl, ← HBe.out]; exact (pk_less (v := (⟨x3, y3, nx, ny, t3⟩ : Tw)) HZ.out).symm, G3.out, HBc2.out.set (⟨x3, y3, nx, ny, t3⟩ : Tw), kep_set (kep_set (kep_set (kep_set HK2.out (Nat.le_refl _) _) (Nat.le_refl _) _) (Nat.le_refl _) _) (Nat.le_refl _) _⟩⟩
          case measure => simp [RowKit.intOf]
    · obtain rfl : k = 4 := by omega
      have HR2 := Lib.hid (HR1.out.kep HK.out)
      have r0 := HR2.out.c0
      have r1 := HR2.out.c1
      have r2 := HR2.out.c2
      have r3 := HR2.out.c3
      have f0 := HR2.out.f 0
      have f1 := HR2.out.f 1
      have f2 := HR2.out.f 2
      have f3 := HR2.out.f 3
      have b0 := HBc.out.c0
      have b1 := HBc.out.c1
      have b2 := HBc.out.c2
      have b3 := HBc.out.c3
      have gg := kep_next (kep_next K0.out K1.out) HK.out
      go_wp2_with fail
      exact bodyPost_ret (v := .agg #[.int .i32 B.a, .int .i32 B.b, .int .i32 B.c, .int .i32 B.d]) (by simp [results, Tryz.results38, go_sem, r0, r1, r2, r3]) rfl ⟨by rw [← HBe.out], by repeat first | exact gg | refine kep_set ?_ (by first | (simp; done) | (simp; omega)) _⟩
theorem rch {px py qx qy mx my nx ny : Int} (h : sgB px py qx qy mx my nx ny = true) : RCh px py qx qy mx my nx ny (chs px py qx qy mx my nx ny) := by
  obtain ⟨h0, h1, h2, h3⟩ := sg_rg h
  obtain ⟨g0, g1, g2, g3⟩ := sg_good h
  exact rch_go (Lib.hid (rneF h0)) (Lib.hid (rneF h1)) (Lib.hid (rneF h2)) (Lib.hid (rneF h3)) (Lib.hid g0) (Lib.hid g1) (Lib.hid g2) (Lib.hid g3)
end Go.Proofs.YtangalkbjochjaaGreatDoor
end

section
/-
  Package contact: the arithmetic of contacts (no program).
-/
namespace Go.Proofs.YtangalkbjochjaaGreatDoor
open Go.RowKit Go.Lib

/-- A valid body. -/
def okC (x : Bd) : Prop := chk x.r x.ax x.ay x.m x.o x.px x.py x.vx x.vy = 0
/-- The chosen points of two bodies' cores. -/
def cc (x y : Bd) : Tw := chs (x.px - x.ax) (x.py - x.ay) (x.px + x.ax) (x.py + x.ay) (y.px - y.ax) (y.py - y.ay) (y.px + y.ax) (y.py + y.ay)
def cdx (x y : Bd) : Int := (cc x y).c - (cc x y).a
def cdy (x y : Bd) : Int := (cc x y).d - (cc x y).b
def cln (x y : Bd) : Int := rt (cc x y).t
def csm (x y : Bd) : Int := x.r + y.r
/-- Two bodies touch, the one with the lesser key first. -/
def tchB (x y : Bd) : Bool := decide ((cc x y).t < csm x y * csm x y)
/-- A contact: its five numbers. -/
structure Ct where
  lo : Int
  hi : Int
  nx : Int
  ny : Int
  dp : Int
def conC (x y : Bd) : Ct := ⟨x.k, y.k, ux (cdx x y) (cln x y), uy (cdy x y) (cln x y), csm x y - cln x y⟩
def conV (x y : Bd) : Ct := if tchB x y = true then conC x y else ⟨0, 0, 0, 0, 0⟩
def gapC (x y : Bd) : Int := cln x y - csm x y
/-- Of two bodies the one with the lesser key, and the other one. -/
def lowB (x y : Bd) : Bd := if y.k < x.k then y else x
def higB (x y : Bd) : Bd := if y.k < x.k then x else y
theorem low_comm {x y : Bd} (h : x.k ≠ y.k) : lowB x y = lowB y x ∧ higB x y = higB y x := by
  unfold lowB higB
  by_cases c : y.k < x.k
  · rw [if_pos c, if_pos c, if_neg (by omega), if_neg (by omega)]; exact ⟨rfl, rfl⟩
  · rw [if_neg c, if_neg c, if_pos (by omega), if_pos (by omega)]; exact ⟨rfl, rfl⟩
theorem low_ok {x y : Bd} (hx : okC x) (hy : okC y) : okC (lowB x y) ∧ okC (higB x y) := by
  unfold lowB higB
  split
  · exact ⟨hy, hx⟩
  · exact ⟨hx, hy⟩
theorem low_lt {x y : Bd} (h : x.k ≠ y.k) : (lowB x y).k < (higB x y).k := by
  unfold lowB higB
  split <;> omega
theorem low_csm (x y : Bd) : csm (lowB x y) (higB x y) = csm x y := by
  unfold lowB higB csm
  split <;> omega
theorem okC_lim {x : Bd} (h : okC x) : (4096 ≤ x.r ∧ x.r ≤ 4194304) ∧ ((-4194304 ≤ x.ax ∧ x.ax ≤ 4194304) ∧ (-4194304 ≤ x.ay ∧ x.ay ≤ 4194304)) ∧ ((-1073741824 ≤ x.px ∧ x.px ≤ 1073741824) ∧ (-1073741824 ≤ x.py ∧ x.py ≤ 1073741824)) := chk_lim h
theorem cc_sg {x y : Bd} (hx : okC x) (hy : okC y) : sgB (x.px - x.ax) (x.py - x.ay) (x.px + x.ax) (x.py + x.ay) (y.px - y.ax) (y.py - y.ay) (y.px + y.ax) (y.py + y.ay) = true := by
  have h1 := okC_lim hx
  have h2 := okC_lim hy
  unfold sgB
  rw [Bool.and_eq_true]
  refine ⟨rgB_iff.2 ⟨?_, ?_, ?_, ?_, ?_, ?_, ?_, ?_⟩, rgB_iff.2 ⟨?_, ?_, ?_, ?_, ?_, ?_, ?_, ?_⟩⟩ <;> first | (unfold Cin; omega) | (unfold Din; omega)
theorem cc_good {x y : Bd} (hx : okC x) (hy : okC y) : Good (cc x y) := sg_chs (cc_sg hx hy)
theorem cc_t {x y : Bd} (hx : okC x) (hy : okC y) : (cc x y).t = lsq (cdx x y) (cdy x y) := (cc_good hx hy).t
theorem cc_ind {x y : Bd} (hx : okC x) (hy : okC y) : InD (cdx x y) ∧ InD (cdy x y) := by
  have g := cc_good hx hy
  have h1 := g.a
  have h2 := g.b
  have h3 := g.c
  have h4 := g.d
  unfold Cin at *
  unfold InD cdx cdy
  omega
theorem cln_is {x y : Bd} (hx : okC x) (hy : okC y) : IsRoot (cln x y) (lsq (cdx x y) (cdy x y)) := by
  have e := cc_t hx hy
  unfold cln
  rw [e]
  exact rt_is (sqP_nn _ _)
theorem cln_bd {x y : Bd} (hx : okC x) (hy : okC y) : 0 ≤ cln x y ∧ cln x y ≤ 4294967295 := by
  have h := cln_is hx hy
  have i := cc_ind hx hy
  have l := (lsq_in i.1 i.2).2
  exact ⟨h.1, h.le_max (by omega)⟩
theorem csm_bd {x y : Bd} (hx : okC x) (hy : okC y) : 8192 ≤ csm x y ∧ csm x y ≤ 8388608 := by
  have h1 := okC_lim hx
  have h2 := okC_lim hy
  unfold csm
  omega
/-- They touch exactly if the length is less than the sum of the radii. -/
theorem tch_iff {x y : Bd} (hx : okC x) (hy : okC y) : tchB x y = true ↔ cln x y < csm x y := by
  have h := cln_is hx hy
  have e := cc_t hx hy
  have hs := csm_bd hx hy
  unfold tchB
  rw [decide_eq_true_iff, e]
  have k := h.iff (t := csm x y) (by omega)
  constructor
  · intro c
    apply Int.not_le.1
    intro q
    have := k.2 q
    omega
  · intro c
    apply Int.not_le.1
    intro q
    have := k.1 q
    omega
theorem nX_box (p q r s c d : Int) : (min p r ≤ nX p q r s c d ∧ nX p q r s c d ≤ max p r) ∧ (min q s ≤ nY p q r s c d ∧ nY p q r s c d ≤ max q s) := by
  have h := paP_in (c - p) (d - q) (r - p) (s - q)
  exact ⟨st_box h.1 h.2 rfl, st_box h.1 h.2 rfl⟩
/-- The chosen points lie in the boxes of the segments. -/
theorem chs_box (a b c d e f g h : Int) : ((min a c ≤ (chs a b c d e f g h).a ∧ (chs a b c d e f g h).a ≤ max a c) ∧ (min b d ≤ (chs a b c d e f g h).b ∧ (chs a b c d e f g h).b ≤ max b d)) ∧ ((min e g ≤ (chs a b c d e f g h).c ∧ (chs a b c d e f g h).c ≤ max e g) ∧ (min f h ≤ (chs a b c d e f g h).d ∧ (chs a b c d e f g h).d ≤ max f h)) := by
  rcases chs_or a b c d e f g h with q | q | q | q <;> rw [q]
  · have k := nX_box e f g h a b
    exact ⟨⟨⟨Int.min_le_left _ _, Int.le_max_left _ _⟩, ⟨Int.min_le_left _ _, Int.le_max_left _ _⟩⟩, k⟩
  · have k := nX_box e f g h c d
    exact ⟨⟨⟨Int.min_le_right _ _, Int.le_max_right _ _⟩, ⟨Int.min_le_right _ _, Int.le_max_right _ _⟩⟩, k⟩
  · have k := nX_box a b c d e f
    exact ⟨k, ⟨⟨Int.min_le_left _ _, Int.le_max_left _ _⟩, ⟨Int.min_le_left _ _, Int.le_max_left _ _⟩⟩⟩
  · have k := nX_box a b c d g h
    exact ⟨k, ⟨⟨Int.min_le_right _ _, Int.le_max_right _ _⟩, ⟨Int.min_le_right _ _, Int.le_max_right _ _⟩⟩⟩
def exC (x : Bd) : Int := max x.ax (-x.ax) + x.r
def eyC (x : Bd) : Int := max x.ay (-x.ay) + x.r
/-- Bodies that touch have boxes that overlap. -/
theorem tch_box {x y : Bd} (hx : okC x) (hy : okC y) (h : tchB x y = true) : (x.px - exC x ≤ y.px + exC y ∧ y.px - exC y ≤ x.px + exC x) ∧ (x.py - eyC x ≤ y.py + eyC y ∧ y.py - eyC y ≤ x.py + eyC x) := by
  have c := (tch_iff hx hy).1 h
  have g := root_ge (cln_is hx hy)
  have b := chs_box (x.px - x.ax) (x.py - x.ay) (x.px + x.ax) (x.py + x.ay) (y.px - y.ax) (y.py - y.ay) (y.px + y.ax) (y.py + y.ay)
  obtain ⟨z, hz⟩ : ∃ z, z = cc x y := ⟨_, rfl⟩
  have hz2 : z = chs (x.px - x.ax) (x.py - x.ay) (x.px + x.ax) (x.py + x.ay) (y.px - y.ax) (y.py - y.ay) (y.px + y.ax) (y.py + y.ay) := hz
  rw [← hz2] at b
  unfold cdx cdy at g
  rw [← hz] at g
  unfold csm at c
  unfold exC eyC
  omega
/-- A body moved. -/
theorem cc_mv {x y x' y' : Bd} {v u : Int} (h1 : x'.px = x.px + v ∧ x'.py = x.py + u ∧ x'.ax = x.ax ∧ x'.ay = x.ay) (h2 : y'.px = y.px + v ∧ y'.py = y.py + u ∧ y'.ax = y.ax ∧ y'.ay = y.ay) : cc x' y' = mvT v u (cc x y) := by
  obtain ⟨a1, a2, a3, a4⟩ := h1
  obtain ⟨b1, b2, b3, b4⟩ := h2
  unfold cc
  rw [a1, a2, a3, a4, b1, b2, b3, b4]
  have e1 : x.px + v - x.ax = x.px - x.ax + v := by omega
  have e2 : x.py + u - x.ay = x.py - x.ay + u := by omega
  have e3 : x.px + v + x.ax = x.px + x.ax + v := by omega
  have e4 : x.py + u + x.ay = x.py + x.ay + u := by omega
  have e5 : y.px + v - y.ax = y.px - y.ax + v := by omega
  have e6 : y.py + u - y.ay = y.py - y.ay + u := by omega
  have e7 : y.px + v + y.ax = y.px + y.ax + v := by omega
  have e8 : y.py + u + y.ay = y.py + y.ay + u := by omega
  rw [e1, e2, e3, e4, e5, e6, e7, e8]
  exact chs_mv _ _ _ _ _ _ _ _ _ _
theorem con_mv {x y x' y' : Bd} {v u : Int} (h1 : x'.px = x.px + v ∧ x'.py = x.py + u ∧ x'.ax = x.ax ∧ x'.ay = x.ay) (h2 : y'.px = y.px + v ∧ y'.py = y.py + u ∧ y'.ax = y.ax ∧ y'.ay = y.ay) (k1 : x'.k = x.k) (k2 : y'.k = y.k) (r1 : x'.r = x.r) (r2 : y'.r = y.r) : tchB x' y' = tchB x y ∧ conV x' y' = conV x y ∧ gapC x' y' = gapC x y := by
  have e := cc_mv h1 h2
  have e1 : cdx x' y' = cdx x y := by
    unfold cdx
    rw [e]
    show (cc x y).c + v - ((cc x y).a + v) = _
    omega
  have e2 : cdy x' y' = cdy x y := by
    unfold cdy
    rw [e]
    show (cc x y).d + u - ((cc x y).b + u) = _
    omega
  have e3 : cln x' y' = cln x y := by unfold cln; rw [e]; rfl
  have e4 : csm x' y' = csm x y := by unfold csm; rw [r1, r2]
  have e5 : tchB x' y' = tchB x y := by unfold tchB; rw [e, e4]; rfl
  refine ⟨e5, ?_, ?_⟩
  · unfold conV conC
    rw [e5, e1, e2, e3, e4, k1, k2]
  · unfold gapC
    rw [e3, e4]
/-- Circles: the chosen points are the positions. -/
theorem cc_cir {x y : Bd} (h1 : x.ax = 0 ∧ x.ay = 0) (h2 : y.ax = 0 ∧ y.ay = 0) : cdx x y = y.px - x.px ∧ cdy x y = y.py - x.py := by
  have e := chs_pts x.px x.py y.px y.py
  have q : cc x y = chs x.px x.py x.px x.py y.px y.py y.px y.py := by
    unfold cc
    rw [h1.1, h1.2, h2.1, h2.2]
    simp only [Int.sub_zero, Int.add_zero]
  unfold cdx cdy
  rw [q, e.1, e.2.1, e.2.2.1, e.2.2.2]
  exact ⟨rfl, rfl⟩
theorem un_neg {d n : Int} (h : 0 < n) : -1 ≤ un d n + un (-d) n ∧ un d n + un (-d) n ≤ 0 := by
  unfold un
  rw [Int.neg_mul]
  have h1 := Int.emod_add_mul_ediv (d * 65536) n
  have h2 := Int.emod_add_mul_ediv (-(d * 65536)) n
  have h3 := Int.emod_nonneg (d * 65536) (show n ≠ 0 by omega)
  have h4 := Int.emod_lt_of_pos (d * 65536) h
  have h5 := Int.emod_nonneg (-(d * 65536)) (show n ≠ 0 by omega)
  have h6 := Int.emod_lt_of_pos (-(d * 65536)) h
  generalize d * 65536 / n = a at *
  generalize -(d * 65536) / n = b at *
  have e : n * (a + b) = n * a + n * b := Int.mul_add _ _ _
  have k1 : n * (a + b) ≤ 0 := by omega
  have k2 : -(2 * n) < n * (a + b) := by omega
  constructor
  · apply Int.not_lt.1
    intro q
    have := Int.mul_le_mul_of_nonneg_left (show a + b ≤ -2 by omega) (show 0 ≤ n by omega)
    omega
  · apply Int.not_lt.1
    intro q
    have := Int.mul_le_mul_of_nonneg_left (show 1 ≤ a + b by omega) (show 0 ≤ n by omega)
    omega
end Go.Proofs.YtangalkbjochjaaGreatDoor
end
