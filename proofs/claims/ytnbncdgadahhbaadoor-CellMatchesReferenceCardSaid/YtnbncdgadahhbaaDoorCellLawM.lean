/-
  Package cell: the law CellMatchesReference.
-/
import Derived.Test.YtnbncdgadahhbaaDoorCellCon
import Derived.Deep.DeepCutAuto
namespace Go.Proofs.YtnbncdgadahhbaaDoor
open Go.RowKit Go.Lib

set_option maxRecDepth 100000 in
set_option maxHeartbeats 8000000 in
theorem cml_all (x y cx cy xa ya za ta p q b c p0 q0 u0 v0 : Int) (AW : Hid CAwake) (R1 : Hid (KRe x y p q)) (E1 : Hid (CeO x y p q)) (B1 : Hid (CeB cx cy b)) (B2 : Hid (KBk cx cy b)) (S1 : Hid (CeS xa ya za ta p0 q0 u0 v0 true)) (E3 : Hid (KEm xa ya za ta false)) (N1 : Hid (KCt xa ya za ta c)) (C1 : Hid (RCl xa p0)) (C2 : Hid (RCl ya q0)) (C3 : Hid (RCl za u0)) (C4 : Hid (RCl ta v0)) (hc : decide (4000 < c) = false) (L : List (Int × Int)) (hL : L.length ≤ 1000000000) (A1 : Hid (CeA xa ya za ta L)) (A2 : Hid (RAl xa ya za ta L)) (w : World) (F0 : Fac w) :
    Calls Tryd.prog 3 #[.agg #[.int .i32 x, .int .i32 y], .agg #[.int .i32 xa, .int .i32 ya, .int .i32 za, .int .i32 ta], .agg #[.int .i32 cx, .int .i32 cy]] w fun e w' => e = .returned (.bool true) ∧ Kep w.heap.size w w' := by
  have v1 := fun w => cell_neq p q w
  have bb : (b != b) = false := by simp
  have v2 := fun w => cell_neq p0 q0 w
  have v3 := fun w => cell_neq u0 v0 w
  have SA := Lib.hid (fun va vb => sam va vb L hL)
  go_enter Tryd.func3, Tryd.ntmps3
  go_wp2_with (first
    | ((with_reducible refine (AW.out _ (F0.kep (by (repeat (first | with_reducible assumption | refine kep_more ?_ _ | refine kep_drew ?_ | exact Kep.refl _ _))))).mono ?_); rintro e w1 ⟨rfl, g1⟩
       have n0 := Kep.all g1 (a := ⟨w.heap.size, 0, none⟩) (v := .int .i32 x) (by (repeat (first | rw [World.cell?_drew] | rw [World.cell?_alloc_past _ _ _ (by first | (simp; done) | (simp; omega))])); rw [World.cell?_alloc_at _ _ _ _ (by simp)]; rfl)
       have n1 := Kep.all g1 (a := ⟨w.heap.size, 1, none⟩) (v := .int .i32 y) (by (repeat (first | rw [World.cell?_drew] | rw [World.cell?_alloc_past _ _ _ (by first | (simp; done) | (simp; omega))])); rw [World.cell?_alloc_at _ _ _ _ (by simp)]; rfl)
       have i0 := Kep.all g1 (a := ⟨w.heap.size + 1, 0, none⟩) (v := .int .i32 xa) (by (repeat (first | rw [World.cell?_drew] | rw [World.cell?_alloc_past _ _ _ (by first | (simp; done) | (simp; omega))])); rw [World.cell?_alloc_at _ _ _ _ (by simp)]; rfl)
       have i1 := Kep.all g1 (a := ⟨w.heap.size + 1, 1, none⟩) (v := .int .i32 ya) (by (repeat (first | rw [World.cell?_drew] | rw [World.cell?_alloc_past _ _ _ (by first | (simp; done) | (simp; omega))])); rw [World.cell?_alloc_at _ _ _ _ (by simp)]; rfl)
       have i2 := Kep.all g1 (a := ⟨w.heap.size + 1, 2, none⟩) (v := .int .i32 za) (by (repeat (first | rw [World.cell?_drew] | rw [World.cell?_alloc_past _ _ _ (by first | (simp; done) | (simp; omega))])); rw [World.cell?_alloc_at _ _ _ _ (by simp)]; rfl)
       have i3 := Kep.all g1 (a := ⟨w.heap.size + 1, 3, none⟩) (v := .int .i32 ta) (by (repeat (first | rw [World.cell?_drew] | rw [World.cell?_alloc_past _ _ _ (by first | (simp; done) | (simp; omega))])); rw [World.cell?_alloc_at _ _ _ _ (by simp)]; rfl)
       have c0 := Kep.all g1 (a := ⟨w.heap.size + 1 + 1, 0, none⟩) (v := .int .i32 cx) (by (repeat (first | rw [World.cell?_drew] | rw [World.cell?_alloc_past _ _ _ (by first | (simp; done) | (simp; omega))])); rw [World.cell?_alloc_at _ _ _ _ (by simp)]; rfl)
       have c1 := Kep.all g1 (a := ⟨w.heap.size + 1 + 1, 1, none⟩) (v := .int .i32 cy) (by (repeat (first | rw [World.cell?_drew] | rw [World.cell?_alloc_past _ _ _ (by first | (simp; done) | (simp; omega))])); rw [World.cell?_alloc_at _ _ _ _ (by simp)]; rfl)
       have gg := kep_next (kep_more (kep_more (kep_more (Kep.refl _ _) _) _) _) g1
       have zn_w1 : w.heap.size < w1.heap.size := World.block_lt_of_cell? _ _ n0
       have zi_w1 : w.heap.size + 1 < w1.heap.size := World.block_lt_of_cell? _ _ i0
       have zc_w1 : w.heap.size + 1 + 1 < w1.heap.size := World.block_lt_of_cell? _ _ c0)
    | ((with_reducible refine (R1.out _).mono ?_); rintro e w2 ⟨rfl, g2⟩
       replace n0 := Kep.all g2 (a := ⟨w.heap.size, 0, none⟩) (v := .int .i32 x) n0
       replace n1 := Kep.all g2 (a := ⟨w.heap.size, 1, none⟩) (v := .int .i32 y) n1
       replace i0 := Kep.all g2 (a := ⟨w.heap.size + 1, 0, none⟩) (v := .int .i32 xa) i0
       replace i1 := Kep.all g2 (a := ⟨w.heap.size + 1, 1, none⟩) (v := .int .i32 ya) i1
       replace i2 := Kep.all g2 (a := ⟨w.heap.size + 1, 2, none⟩) (v := .int .i32 za) i2
       replace i3 := Kep.all g2 (a := ⟨w.heap.size + 1, 3, none⟩) (v := .int .i32 ta) i3
       replace c0 := Kep.all g2 (a := ⟨w.heap.size + 1 + 1, 0, none⟩) (v := .int .i32 cx) c0
       replace c1 := Kep.all g2 (a := ⟨w.heap.size + 1 + 1, 1, none⟩) (v := .int .i32 cy) c1
       replace gg := kep_next gg g2
       have zn_w2 : w.heap.size < w2.heap.size := World.block_lt_of_cell? _ _ n0
       have zi_w2 : w.heap.size + 1 < w2.heap.size := World.block_lt_of_cell? _ _ i0
       have zc_w2 : w.heap.size + 1 + 1 < w2.heap.size := World.block_lt_of_cell? _ _ c0))
  obtain ⟨W, hW⟩ : ∃ W, W = World.alloc w2 (.cells #[.int .i32 p, .int .i32 q] 26) := ⟨_, rfl⟩
  rw [← hW]
  replace n0 : W.cell? ⟨w.heap.size, 0, none⟩ = some (.int .i32 x) := by rw [hW]; exact (Kep.all (kep_more (Kep.refl _ _) _) n0)
  replace n1 : W.cell? ⟨w.heap.size, 1, none⟩ = some (.int .i32 y) := by rw [hW]; exact (Kep.all (kep_more (Kep.refl _ _) _) n1)
  replace i0 : W.cell? ⟨w.heap.size + 1, 0, none⟩ = some (.int .i32 xa) := by rw [hW]; exact (Kep.all (kep_more (Kep.refl _ _) _) i0)
  replace i1 : W.cell? ⟨w.heap.size + 1, 1, none⟩ = some (.int .i32 ya) := by rw [hW]; exact (Kep.all (kep_more (Kep.refl _ _) _) i1)
  replace i2 : W.cell? ⟨w.heap.size + 1, 2, none⟩ = some (.int .i32 za) := by rw [hW]; exact (Kep.all (kep_more (Kep.refl _ _) _) i2)
  replace i3 : W.cell? ⟨w.heap.size + 1, 3, none⟩ = some (.int .i32 ta) := by rw [hW]; exact (Kep.all (kep_more (Kep.refl _ _) _) i3)
  replace c0 : W.cell? ⟨w.heap.size + 1 + 1, 0, none⟩ = some (.int .i32 cx) := by rw [hW]; exact (Kep.all (kep_more (Kep.refl _ _) _) c0)
  replace c1 : W.cell? ⟨w.heap.size + 1 + 1, 1, none⟩ = some (.int .i32 cy) := by rw [hW]; exact (Kep.all (kep_more (Kep.refl _ _) _) c1)
  have r0 : W.cell? ⟨w2.heap.size, 0, none⟩ = some (.int .i32 p) := by rw [hW]; (repeat (first | rw [World.cell?_drew] | rw [World.cell?_alloc_past _ _ _ (by first | (simp; done) | (simp; omega))])); rw [World.cell?_alloc_at _ _ _ _ (by simp)]; rfl
  have r1 : W.cell? ⟨w2.heap.size, 1, none⟩ = some (.int .i32 q) := by rw [hW]; (repeat (first | rw [World.cell?_drew] | rw [World.cell?_alloc_past _ _ _ (by first | (simp; done) | (simp; omega))])); rw [World.cell?_alloc_at _ _ _ _ (by simp)]; rfl
  replace gg : Kep w.heap.size w W := by rw [hW]; exact kep_more gg _
  clear hW
  refine wp_region_noPanic ?_
  refine wp_region_held_drew (S := (fun w' => w'.cell? ⟨w.heap.size, 0, none⟩ = some (.int .i32 x) ∧ w'.cell? ⟨w.heap.size, 1, none⟩ = some (.int .i32 y) ∧ w'.cell? ⟨w.heap.size + 1, 0, none⟩ = some (.int .i32 xa) ∧ w'.cell? ⟨w.heap.size + 1, 1, none⟩ = some (.int .i32 ya) ∧ w'.cell? ⟨w.heap.size + 1, 2, none⟩ = some (.int .i32 za) ∧ w'.cell? ⟨w.heap.size + 1, 3, none⟩ = some (.int .i32 ta) ∧ w'.cell? ⟨w.heap.size + 1 + 1, 0, none⟩ = some (.int .i32 cx) ∧ w'.cell? ⟨w.heap.size + 1 + 1, 1, none⟩ = some (.int .i32 cy) ∧ w'.cell? ⟨w2.heap.size, 0, none⟩ = some (.int .i32 p) ∧ w'.cell? ⟨w2.heap.size, 1, none⟩ = some (.int .i32 q) ∧ Kep w.heap.size w w')) (by kernel_rfl) (⟨by rw [World.cell?_drew]; exact n0, by rw [World.cell?_drew]; exact n1, by rw [World.cell?_drew]; exact i0, by rw [World.cell?_drew]; exact i1, by rw [World.cell?_drew]; exact i2, by rw [World.cell?_drew]; exact i3, by rw [World.cell?_drew]; exact c0, by rw [World.cell?_drew]; exact c1, by rw [World.cell?_drew]; exact r0, by rw [World.cell?_drew]; exact r1, kep_drew gg⟩) (fun hH => ?_)
  refine wpAnyH_take (i := 0) (oi := { dst := some 16, op := Op.load 23 (Operand.tmp 3), type := _, pos := _, after := _, guard := none }) (v := ?_) rfl (by kernel_rfl) (by kernel_rfl) (by kernel_rfl) (fun _ _ _ h => h) (Or.inl ⟨by rfl, ?_⟩) hH ?_
  rotate_left
  · (intro w hSw; (try dsimp only at hSw); go_simp; (try with_reducible rfl))
  try simp only [Act.put, List.setIfInBounds_toArray, List.set_cons_zero, List.set_cons_succ]
  refine wpAnyH_take (i := 2) (oi := { dst := some 18, op := Op.fieldAddr 26 (Operand.tmp 7) 0, type := _, pos := _, after := _, guard := none }) (v := ?_) rfl (by kernel_rfl) (by kernel_rfl) (by kernel_rfl) (fun _ _ _ h => h) (Or.inl ⟨by rfl, ?_⟩) hH ?_
  rotate_left
  · (intro w hSw; (try dsimp only at hSw); go_simp; (try with_reducible rfl))
  try simp only [Act.put, List.setIfInBounds_toArray, List.set_cons_zero, List.set_cons_succ]
  refine wpAnyH_take (i := 3) (oi := { dst := some 19, op := Op.load 21 (Operand.tmp 18), type := _, pos := _, after := _, guard := none }) (v := ?_) rfl (by kernel_rfl) (by kernel_rfl) (by kernel_rfl) (fun _ _ _ h => h) (Or.inl ⟨by rfl, ?_⟩) hH ?_
  rotate_left
  · (intro w hSw; (try dsimp only at hSw); go_simp; (try with_reducible rfl))
  try simp only [Act.put, List.setIfInBounds_toArray, List.set_cons_zero, List.set_cons_succ]
  refine wpAnyH_take (i := 4) (oi := { dst := some 20, op := Op.fieldAddr 26 (Operand.tmp 7) 1, type := _, pos := _, after := _, guard := none }) (v := ?_) rfl (by kernel_rfl) (by kernel_rfl) (by kernel_rfl) (fun _ _ _ h => h) (Or.inl ⟨by rfl, ?_⟩) hH ?_
  rotate_left
  · (intro w hSw; (try dsimp only at hSw); go_simp; (try with_reducible rfl))
  try simp only [Act.put, List.setIfInBounds_toArray, List.set_cons_zero, List.set_cons_succ]
  refine wpAnyH_take (i := 5) (oi := { dst := some 21, op := Op.load 21 (Operand.tmp 20), type := _, pos := _, after := _, guard := none }) (v := ?_) rfl (by kernel_rfl) (by kernel_rfl) (by kernel_rfl) (fun _ _ _ h => h) (Or.inl ⟨by rfl, ?_⟩) hH ?_
  rotate_left
  · (intro w hSw; (try dsimp only at hSw); go_simp; (try with_reducible rfl))
  try simp only [Act.put, List.setIfInBounds_toArray, List.set_cons_zero, List.set_cons_succ]
  refine wpAnyH_take (i := 6) (oi := { dst := some 22, op := Op.build 29 #[(0, Operand.tmp 19), (1, Operand.tmp 21)], type := _, pos := _, after := _, guard := none }) (v := ?_) rfl (by kernel_rfl) (by kernel_rfl) (by kernel_rfl) (fun _ _ _ h => h) (Or.inl ⟨by rfl, ?_⟩) hH ?_
  rotate_left
  · (intro w hSw; (try dsimp only at hSw); go_simp; (try with_reducible rfl))
  try simp only [Act.put, List.setIfInBounds_toArray, List.set_cons_zero, List.set_cons_succ]
  refine wpAnyH_ready (rs := [1]) (by kernel_rfl) (by simp) ?_
  refine AllReadyH.cons (o := { dst := some 17, op := Op.call { callee := Callee.value (Operand.func 10), args := #[Operand.tmp 16], argTypes := #[23] }, type := _, pos := _, after := _, guard := none }) rfl (fun K hK => ?_) AllReadyH.nil
  go_simp
  (with_reducible refine (E1.out _).mono ?_); rintro e v4_1 ⟨rfl, g⟩
  refine hK.out _ _ (by (try dsimp only); (go_split_ands; exact ⟨Kep.all g (by assumption), Kep.all g (by assumption), Kep.all g (by assumption), Kep.all g (by assumption), Kep.all g (by assumption), Kep.all g (by assumption), Kep.all g (by assumption), Kep.all g (by assumption), Kep.all g (by assumption), Kep.all g (by assumption), kep_next (by assumption) g⟩)) (fun hH2 => ?_)
  clear hK K hH; have hH := hH2; clear hH2
  try simp only [Act.put, List.setIfInBounds_toArray, List.set_cons_zero, List.set_cons_succ]
  refine wpAnyH_take (i := 7) (oi := { dst := some 23, op := Op.binOp BinOp.neq 29 (Operand.tmp 17) (Operand.tmp 22) 29, type := _, pos := _, after := _, guard := none }) (v := ?_) rfl (by kernel_rfl) (by kernel_rfl) (by kernel_rfl) (fun _ _ _ h => h) (Or.inl ⟨by rfl, ?_⟩) hH ?_
  rotate_left
  · (intro w hSw; (try dsimp only at hSw); go_simp; (try with_reducible rfl))
  try simp only [Act.put, List.setIfInBounds_toArray, List.set_cons_zero, List.set_cons_succ]
  refine wpAnyH_take (i := 8) (oi := { dst := some 24, op := Op.move (Operand.tmp 23), type := _, pos := _, after := _, guard := none }) (v := ?_) rfl (by kernel_rfl) (by kernel_rfl) (by kernel_rfl) (fun _ _ _ h => h) (Or.inl ⟨by rfl, ?_⟩) hH ?_
  rotate_left
  · (intro w hSw; (try dsimp only at hSw); go_simp; (try with_reducible rfl))
  try simp only [Act.put, List.setIfInBounds_toArray, List.set_cons_zero, List.set_cons_succ]
  refine wpAnyH_take (i := 9) (oi := { dst := some 25, op := Op.fieldAddr 26 (Operand.tmp 5) 0, type := _, pos := _, after := _, guard := some (8, false) }) (v := ?_) rfl (by kernel_rfl) (by kernel_rfl) (by kernel_rfl) (fun _ _ _ h => h) (Or.inl ⟨by rfl, ?_⟩) hH ?_
  rotate_left
  · (intro w hSw; (try dsimp only at hSw); go_simp; (try with_reducible rfl))
  try simp only [Act.put, List.setIfInBounds_toArray, List.set_cons_zero, List.set_cons_succ]
  refine wpAnyH_take (i := 10) (oi := { dst := some 26, op := Op.load 21 (Operand.tmp 25), type := _, pos := _, after := _, guard := some (8, false) }) (v := ?_) rfl (by kernel_rfl) (by kernel_rfl) (by kernel_rfl) (fun _ _ _ h => h) (Or.inl ⟨by rfl, ?_⟩) hH ?_
  rotate_left
  · (intro w hSw; (try dsimp only at hSw); go_simp; (try with_reducible rfl))
  try simp only [Act.put, List.setIfInBounds_toArray, List.set_cons_zero, List.set_cons_succ]
  refine wpAnyH_take (i := 11) (oi := { dst := some 27, op := Op.fieldAddr 26 (Operand.tmp 5) 1, type := _, pos := _, after := _, guard := some (8, false) }) (v := ?_) rfl (by kernel_rfl) (by kernel_rfl) (by kernel_rfl) (fun _ _ _ h => h) (Or.inl ⟨by rfl, ?_⟩) hH ?_
  rotate_left
  · (intro w hSw; (try dsimp only at hSw); go_simp; (try with_reducible rfl))
  try simp only [Act.put, List.setIfInBounds_toArray, List.set_cons_zero, List.set_cons_succ]
  refine wpAnyH_take (i := 12) (oi := { dst := some 28, op := Op.load 21 (Operand.tmp 27), type := _, pos := _, after := _, guard := some (8, false) }) (v := ?_) rfl (by kernel_rfl) (by kernel_rfl) (by kernel_rfl) (fun _ _ _ h => h) (Or.inl ⟨by rfl, ?_⟩) hH ?_
  rotate_left
  · (intro w hSw; (try dsimp only at hSw); go_simp; (try with_reducible rfl))
  try simp only [Act.put, List.setIfInBounds_toArray, List.set_cons_zero, List.set_cons_succ]
  refine wpAnyH_take (i := 13) (oi := { dst := some 29, op := Op.build 29 #[(0, Operand.tmp 26), (1, Operand.tmp 28)], type := _, pos := _, after := _, guard := some (8, false) }) (v := ?_) rfl (by kernel_rfl) (by kernel_rfl) (by kernel_rfl) (fun _ _ _ h => h) (Or.inl ⟨by rfl, ?_⟩) hH ?_
  rotate_left
  · (intro w hSw; (try dsimp only at hSw); go_simp; (try with_reducible rfl))
  try simp only [Act.put, List.setIfInBounds_toArray, List.set_cons_zero, List.set_cons_succ]
  refine wpAnyH_take (i := 15) (oi := { dst := some 31, op := Op.load 26 (Operand.tmp 5), type := _, pos := _, after := _, guard := some (8, false) }) (v := ?_) rfl (by kernel_rfl) (by kernel_rfl) (by kernel_rfl) (fun _ _ _ h => h) (Or.inl ⟨by rfl, ?_⟩) hH ?_
  rotate_left
  · (intro w hSw; (try dsimp only at hSw); go_simp; (try with_reducible rfl))
  try simp only [Act.put, List.setIfInBounds_toArray, List.set_cons_zero, List.set_cons_succ]
  refine wpAnyH_ready (rs := [14]) (by kernel_rfl) (by simp) ?_
  refine AllReadyH.cons (o := { dst := some 30, op := Op.call { callee := Callee.value (Operand.func 11), args := #[Operand.tmp 29], argTypes := #[29] }, type := _, pos := _, after := _, guard := some (8, false) }) rfl (fun K hK => ?_) AllReadyH.nil
  go_simp
  (with_reducible refine (B1.out _ (F0.kep hH.2.2.2.2.2.2.2.2.2.2)).mono ?_); rintro e v4_14 ⟨rfl, g⟩
  refine hK.out _ _ (by (try dsimp only); (go_split_ands; exact ⟨Kep.all g (by assumption), Kep.all g (by assumption), Kep.all g (by assumption), Kep.all g (by assumption), Kep.all g (by assumption), Kep.all g (by assumption), Kep.all g (by assumption), Kep.all g (by assumption), Kep.all g (by assumption), Kep.all g (by assumption), kep_next (by assumption) g⟩)) (fun hH2 => ?_)
  clear hK K hH; have hH := hH2; clear hH2
  try simp only [Act.put, List.setIfInBounds_toArray, List.set_cons_zero, List.set_cons_succ]
  refine wpAnyH_ready (rs := [16]) (by kernel_rfl) (by simp) ?_
  refine AllReadyH.cons (o := { dst := some 32, op := Op.call { callee := Callee.value (Operand.func 12), args := #[Operand.tmp 31], argTypes := #[26] }, type := _, pos := _, after := _, guard := some (8, false) }) rfl (fun K hK => ?_) AllReadyH.nil
  go_simp
  (with_reducible refine (B2.out _).mono ?_); rintro e v4_16 ⟨rfl, g⟩
  refine hK.out _ _ (by (try dsimp only); (go_split_ands; exact ⟨Kep.all g (by assumption), Kep.all g (by assumption), Kep.all g (by assumption), Kep.all g (by assumption), Kep.all g (by assumption), Kep.all g (by assumption), Kep.all g (by assumption), Kep.all g (by assumption), Kep.all g (by assumption), Kep.all g (by assumption), kep_next (by assumption) g⟩)) (fun hH2 => ?_)
  clear hK K hH; have hH := hH2; clear hH2
  try simp only [Act.put, List.setIfInBounds_toArray, List.set_cons_zero, List.set_cons_succ]
  refine wpAnyH_take (i := 17) (oi := { dst := some 33, op := Op.binOp BinOp.neq 3 (Operand.tmp 30) (Operand.tmp 32) 3, type := _, pos := _, after := _, guard := some (8, false) }) (v := ?_) rfl (by kernel_rfl) (by kernel_rfl) (by kernel_rfl) (fun _ _ _ h => h) (Or.inl ⟨by rfl, ?_⟩) hH ?_
  rotate_left
  · (intro w hSw; (try dsimp only at hSw); go_simp; (try with_reducible rfl))
  try simp only [Act.put, List.setIfInBounds_toArray, List.set_cons_zero, List.set_cons_succ]
  refine wpAnyH_take (i := 18) (oi := { dst := some 34, op := Op.pick (Operand.tmp 24) (Operand.const (Value.bool true)) (Operand.tmp 33), type := _, pos := _, after := _, guard := none }) (v := ?_) rfl (by kernel_rfl) (by kernel_rfl) (by kernel_rfl) (fun _ _ _ h => h) (Or.inl ⟨by rfl, ?_⟩) hH ?_
  rotate_left
  · (intro w hSw; (try dsimp only at hSw); go_simp; (try with_reducible rfl))
  try simp only [Act.put, List.setIfInBounds_toArray, List.set_cons_zero, List.set_cons_succ]
  refine wpAnyH_done (by kernel_rfl) ?_ _
  refine NoPanic.normal ?_
  clear n0 n1 i0 i1 i2 i3 c0 c1 r0 r1 gg
  obtain ⟨n0, n1, i0, i1, i2, i3, c0, c1, r0, r1, gg⟩ := hH
  go_wp2_with (first
    | ((with_reducible refine (S1.out _).mono ?_); rintro e w5 ⟨rfl, g5⟩
       replace n0 := Kep.all g5 (a := ⟨w.heap.size, 0, none⟩) (v := .int .i32 x) (Kep.all (kep_more (Kep.refl _ _) _) n0)
       replace n1 := Kep.all g5 (a := ⟨w.heap.size, 1, none⟩) (v := .int .i32 y) (Kep.all (kep_more (Kep.refl _ _) _) n1)
       replace i0 := Kep.all g5 (a := ⟨w.heap.size + 1, 0, none⟩) (v := .int .i32 xa) (Kep.all (kep_more (Kep.refl _ _) _) i0)
       replace i1 := Kep.all g5 (a := ⟨w.heap.size + 1, 1, none⟩) (v := .int .i32 ya) (Kep.all (kep_more (Kep.refl _ _) _) i1)
       replace i2 := Kep.all g5 (a := ⟨w.heap.size + 1, 2, none⟩) (v := .int .i32 za) (Kep.all (kep_more (Kep.refl _ _) _) i2)
       replace i3 := Kep.all g5 (a := ⟨w.heap.size + 1, 3, none⟩) (v := .int .i32 ta) (Kep.all (kep_more (Kep.refl _ _) _) i3)
       replace c0 := Kep.all g5 (a := ⟨w.heap.size + 1 + 1, 0, none⟩) (v := .int .i32 cx) (Kep.all (kep_more (Kep.refl _ _) _) c0)
       replace c1 := Kep.all g5 (a := ⟨w.heap.size + 1 + 1, 1, none⟩) (v := .int .i32 cy) (Kep.all (kep_more (Kep.refl _ _) _) c1)
       replace r0 := Kep.all g5 (a := ⟨w2.heap.size, 0, none⟩) (v := .int .i32 p) (Kep.all (kep_more (Kep.refl _ _) _) r0)
       replace r1 := Kep.all g5 (a := ⟨w2.heap.size, 1, none⟩) (v := .int .i32 q) (Kep.all (kep_more (Kep.refl _ _) _) r1)
       have b0 := Kep.all g5 (a := ⟨v4_16.heap.size, 0, none⟩) (v := .int .i32 xa) (by (repeat (first | rw [World.cell?_drew] | rw [World.cell?_alloc_past _ _ _ (by first | (simp; done) | (simp; omega))])); rw [World.cell?_alloc_at _ _ _ _ (by simp)]; rfl)
       have b1 := Kep.all g5 (a := ⟨v4_16.heap.size, 1, none⟩) (v := .int .i32 ya) (by (repeat (first | rw [World.cell?_drew] | rw [World.cell?_alloc_past _ _ _ (by first | (simp; done) | (simp; omega))])); rw [World.cell?_alloc_at _ _ _ _ (by simp)]; rfl)
       have b2 := Kep.all g5 (a := ⟨v4_16.heap.size, 2, none⟩) (v := .int .i32 za) (by (repeat (first | rw [World.cell?_drew] | rw [World.cell?_alloc_past _ _ _ (by first | (simp; done) | (simp; omega))])); rw [World.cell?_alloc_at _ _ _ _ (by simp)]; rfl)
       have b3 := Kep.all g5 (a := ⟨v4_16.heap.size, 3, none⟩) (v := .int .i32 ta) (by (repeat (first | rw [World.cell?_drew] | rw [World.cell?_alloc_past _ _ _ (by first | (simp; done) | (simp; omega))])); rw [World.cell?_alloc_at _ _ _ _ (by simp)]; rfl)
       replace gg := kep_next (kep_more gg _) g5
       have zn_w5 : w.heap.size < w5.heap.size := World.block_lt_of_cell? _ _ n0
       have zi_w5 : w.heap.size + 1 < w5.heap.size := World.block_lt_of_cell? _ _ i0
       have zc_w5 : w.heap.size + 1 + 1 < w5.heap.size := World.block_lt_of_cell? _ _ c0
       have zr_w5 : w2.heap.size < w5.heap.size := World.block_lt_of_cell? _ _ r0
       have zb_w5 : v4_16.heap.size < w5.heap.size := World.block_lt_of_cell? _ _ b0)
    | ((with_reducible refine (E3.out _).mono ?_); rintro e w6 ⟨rfl, g6⟩
       replace n0 := Kep.all g6 (a := ⟨w.heap.size, 0, none⟩) (v := .int .i32 x) (Kep.all (kep_more (kep_more (Kep.refl _ _) _) _) n0)
       replace n1 := Kep.all g6 (a := ⟨w.heap.size, 1, none⟩) (v := .int .i32 y) (Kep.all (kep_more (kep_more (Kep.refl _ _) _) _) n1)
       replace i0 := Kep.all g6 (a := ⟨w.heap.size + 1, 0, none⟩) (v := .int .i32 xa) (Kep.all (kep_more (kep_more (Kep.refl _ _) _) _) i0)
       replace i1 := Kep.all g6 (a := ⟨w.heap.size + 1, 1, none⟩) (v := .int .i32 ya) (Kep.all (kep_more (kep_more (Kep.refl _ _) _) _) i1)
       replace i2 := Kep.all g6 (a := ⟨w.heap.size + 1, 2, none⟩) (v := .int .i32 za) (Kep.all (kep_more (kep_more (Kep.refl _ _) _) _) i2)
       replace i3 := Kep.all g6 (a := ⟨w.heap.size + 1, 3, none⟩) (v := .int .i32 ta) (Kep.all (kep_more (kep_more (Kep.refl _ _) _) _) i3)
       replace c0 := Kep.all g6 (a := ⟨w.heap.size + 1 + 1, 0, none⟩) (v := .int .i32 cx) (Kep.all (kep_more (kep_more (Kep.refl _ _) _) _) c0)
       replace c1 := Kep.all g6 (a := ⟨w.heap.size + 1 + 1, 1, none⟩) (v := .int .i32 cy) (Kep.all (kep_more (kep_more (Kep.refl _ _) _) _) c1)
       replace r0 := Kep.all g6 (a := ⟨w2.heap.size, 0, none⟩) (v := .int .i32 p) (Kep.all (kep_more (kep_more (Kep.refl _ _) _) _) r0)
       replace r1 := Kep.all g6 (a := ⟨w2.heap.size, 1, none⟩) (v := .int .i32 q) (Kep.all (kep_more (kep_more (Kep.refl _ _) _) _) r1)
       replace b0 := Kep.all g6 (a := ⟨v4_16.heap.size, 0, none⟩) (v := .int .i32 xa) (Kep.all (kep_more (kep_more (Kep.refl _ _) _) _) b0)
       replace b1 := Kep.all g6 (a := ⟨v4_16.heap.size, 1, none⟩) (v := .int .i32 ya) (Kep.all (kep_more (kep_more (Kep.refl _ _) _) _) b1)
       replace b2 := Kep.all g6 (a := ⟨v4_16.heap.size, 2, none⟩) (v := .int .i32 za) (Kep.all (kep_more (kep_more (Kep.refl _ _) _) _) b2)
       replace b3 := Kep.all g6 (a := ⟨v4_16.heap.size, 3, none⟩) (v := .int .i32 ta) (Kep.all (kep_more (kep_more (Kep.refl _ _) _) _) b3)
       have l0 := Kep.all g6 (a := ⟨w5.heap.size, 0, none⟩) (v := .int .i32 p0) (by (repeat (first | rw [World.cell?_drew] | rw [World.cell?_alloc_past _ _ _ (by first | (simp; done) | (simp; omega))])); rw [World.cell?_alloc_at _ _ _ _ (by simp)]; rfl)
       have l1 := Kep.all g6 (a := ⟨w5.heap.size, 1, none⟩) (v := .int .i32 q0) (by (repeat (first | rw [World.cell?_drew] | rw [World.cell?_alloc_past _ _ _ (by first | (simp; done) | (simp; omega))])); rw [World.cell?_alloc_at _ _ _ _ (by simp)]; rfl)
       have h0 := Kep.all g6 (a := ⟨w5.heap.size + 1, 0, none⟩) (v := .int .i32 u0) (by (repeat (first | rw [World.cell?_drew] | rw [World.cell?_alloc_past _ _ _ (by first | (simp; done) | (simp; omega))])); rw [World.cell?_alloc_at _ _ _ _ (by simp)]; rfl)
       have h1 := Kep.all g6 (a := ⟨w5.heap.size + 1, 1, none⟩) (v := .int .i32 v0) (by (repeat (first | rw [World.cell?_drew] | rw [World.cell?_alloc_past _ _ _ (by first | (simp; done) | (simp; omega))])); rw [World.cell?_alloc_at _ _ _ _ (by simp)]; rfl)
       replace gg := kep_next (kep_more (kep_more gg _) _) g6
       have zn_w6 : w.heap.size < w6.heap.size := World.block_lt_of_cell? _ _ n0
       have zi_w6 : w.heap.size + 1 < w6.heap.size := World.block_lt_of_cell? _ _ i0
       have zc_w6 : w.heap.size + 1 + 1 < w6.heap.size := World.block_lt_of_cell? _ _ c0
       have zr_w6 : w2.heap.size < w6.heap.size := World.block_lt_of_cell? _ _ r0
       have zb_w6 : v4_16.heap.size < w6.heap.size := World.block_lt_of_cell? _ _ b0
       have zl_w6 : w5.heap.size < w6.heap.size := World.block_lt_of_cell? _ _ l0
       have zh_w6 : w5.heap.size + 1 < w6.heap.size := World.block_lt_of_cell? _ _ h0))
  refine wp_region_noPanic ?_
  refine wp_region_held_drew (S := (fun w' => w'.cell? ⟨w.heap.size, 0, none⟩ = some (.int .i32 x) ∧ w'.cell? ⟨w.heap.size, 1, none⟩ = some (.int .i32 y) ∧ w'.cell? ⟨w.heap.size + 1, 0, none⟩ = some (.int .i32 xa) ∧ w'.cell? ⟨w.heap.size + 1, 1, none⟩ = some (.int .i32 ya) ∧ w'.cell? ⟨w.heap.size + 1, 2, none⟩ = some (.int .i32 za) ∧ w'.cell? ⟨w.heap.size + 1, 3, none⟩ = some (.int .i32 ta) ∧ w'.cell? ⟨w.heap.size + 1 + 1, 0, none⟩ = some (.int .i32 cx) ∧ w'.cell? ⟨w.heap.size + 1 + 1, 1, none⟩ = some (.int .i32 cy) ∧ w'.cell? ⟨w2.heap.size, 0, none⟩ = some (.int .i32 p) ∧ w'.cell? ⟨w2.heap.size, 1, none⟩ = some (.int .i32 q) ∧ w'.cell? ⟨v4_16.heap.size, 0, none⟩ = some (.int .i32 xa) ∧ w'.cell? ⟨v4_16.heap.size, 1, none⟩ = some (.int .i32 ya) ∧ w'.cell? ⟨v4_16.heap.size, 2, none⟩ = some (.int .i32 za) ∧ w'.cell? ⟨v4_16.heap.size, 3, none⟩ = some (.int .i32 ta) ∧ w'.cell? ⟨w5.heap.size, 0, none⟩ = some (.int .i32 p0) ∧ w'.cell? ⟨w5.heap.size, 1, none⟩ = some (.int .i32 q0) ∧ w'.cell? ⟨w5.heap.size + 1, 0, none⟩ = some (.int .i32 u0) ∧ w'.cell? ⟨w5.heap.size + 1, 1, none⟩ = some (.int .i32 v0) ∧ Kep w.heap.size w w')) (by kernel_rfl) (⟨by rw [World.cell?_drew]; exact n0, by rw [World.cell?_drew]; exact n1, by rw [World.cell?_drew]; exact i0, by rw [World.cell?_drew]; exact i1, by rw [World.cell?_drew]; exact i2, by rw [World.cell?_drew]; exact i3, by rw [World.cell?_drew]; exact c0, by rw [World.cell?_drew]; exact c1, by rw [World.cell?_drew]; exact r0, by rw [World.cell?_drew]; exact r1, by rw [World.cell?_drew]; exact b0, by rw [World.cell?_drew]; exact b1, by rw [World.cell?_drew]; exact b2, by rw [World.cell?_drew]; exact b3, by rw [World.cell?_drew]; exact l0, by rw [World.cell?_drew]; exact l1, by rw [World.cell?_drew]; exact h0, by rw [World.cell?_drew]; exact h1, kep_drew gg⟩) (fun hH => ?_)
  refine wpAnyH_take (i := 0) (oi := { dst := some 68, op := Op.move (Operand.tmp 11), type := _, pos := _, after := _, guard := none }) (v := ?_) rfl (by kernel_rfl) (by kernel_rfl) (by kernel_rfl) (fun _ _ _ h => h) (Or.inl ⟨by rfl, ?_⟩) hH ?_
  rotate_left
  · (intro w hSw; (try dsimp only at hSw); go_simp; (try with_reducible rfl))
  try simp only [Act.put, List.setIfInBounds_toArray, List.set_cons_zero, List.set_cons_succ]
  refine wpAnyH_take (i := 1) (oi := { dst := some 69, op := Op.move (Operand.tmp 68), type := _, pos := _, after := _, guard := none }) (v := ?_) rfl (by kernel_rfl) (by kernel_rfl) (by kernel_rfl) (fun _ _ _ h => h) (Or.inl ⟨by rfl, ?_⟩) hH ?_
  rotate_left
  · (intro w hSw; (try dsimp only at hSw); go_simp; (try with_reducible rfl))
  try simp only [Act.put, List.setIfInBounds_toArray, List.set_cons_zero, List.set_cons_succ]
  refine wpAnyH_take (i := 2) (oi := { dst := some 70, op := Op.load 29 (Operand.tmp 9), type := _, pos := _, after := _, guard := some (1, true) }) (v := ?_) rfl (by kernel_rfl) (by kernel_rfl) (by kernel_rfl) (fun _ _ _ h => h) (Or.inl ⟨by rfl, ?_⟩) hH ?_
  rotate_left
  · (intro w hSw; (try dsimp only at hSw); go_simp; (try with_reducible rfl))
  try simp only [Act.put, List.setIfInBounds_toArray, List.set_cons_zero, List.set_cons_succ]
  refine wpAnyH_take (i := 3) (oi := { dst := some 71, op := Op.fieldAddr 25 (Operand.tmp 4) 0, type := _, pos := _, after := _, guard := some (1, true) }) (v := ?_) rfl (by kernel_rfl) (by kernel_rfl) (by kernel_rfl) (fun _ _ _ h => h) (Or.inl ⟨by rfl, ?_⟩) hH ?_
  rotate_left
  · (intro w hSw; (try dsimp only at hSw); go_simp; (try with_reducible rfl))
  try simp only [Act.put, List.setIfInBounds_toArray, List.set_cons_zero, List.set_cons_succ]
  refine wpAnyH_take (i := 4) (oi := { dst := some 72, op := Op.load 21 (Operand.tmp 71), type := _, pos := _, after := _, guard := some (1, true) }) (v := ?_) rfl (by kernel_rfl) (by kernel_rfl) (by kernel_rfl) (fun _ _ _ h => h) (Or.inl ⟨by rfl, ?_⟩) hH ?_
  rotate_left
  · (intro w hSw; (try dsimp only at hSw); go_simp; (try with_reducible rfl))
  try simp only [Act.put, List.setIfInBounds_toArray, List.set_cons_zero, List.set_cons_succ]
  refine wpAnyH_take (i := 6) (oi := { dst := some 74, op := Op.fieldAddr 25 (Operand.tmp 4) 1, type := _, pos := _, after := _, guard := some (1, true) }) (v := ?_) rfl (by kernel_rfl) (by kernel_rfl) (by kernel_rfl) (fun _ _ _ h => h) (Or.inl ⟨by rfl, ?_⟩) hH ?_
  rotate_left
  · (intro w hSw; (try dsimp only at hSw); go_simp; (try with_reducible rfl))
  try simp only [Act.put, List.setIfInBounds_toArray, List.set_cons_zero, List.set_cons_succ]
  refine wpAnyH_take (i := 7) (oi := { dst := some 75, op := Op.load 21 (Operand.tmp 74), type := _, pos := _, after := _, guard := some (1, true) }) (v := ?_) rfl (by kernel_rfl) (by kernel_rfl) (by kernel_rfl) (fun _ _ _ h => h) (Or.inl ⟨by rfl, ?_⟩) hH ?_
  rotate_left
  · (intro w hSw; (try dsimp only at hSw); go_simp; (try with_reducible rfl))
  try simp only [Act.put, List.setIfInBounds_toArray, List.set_cons_zero, List.set_cons_succ]
  refine wpAnyH_ready (rs := [5]) (by kernel_rfl) (by simp) ?_
  refine AllReadyH.cons (o := { dst := some 73, op := Op.call { callee := Callee.value (Operand.func 15), args := #[Operand.tmp 72], argTypes := #[21] }, type := _, pos := _, after := _, guard := some (1, true) }) rfl (fun K hK => ?_) AllReadyH.nil
  go_simp
  (with_reducible refine (C1.out _).mono ?_); rintro e v10_5 ⟨rfl, rfl⟩
  refine hK.out _ _ hH (fun hH2 => ?_)
  clear hK K hH; have hH := hH2; clear hH2
  try simp only [Act.put, List.setIfInBounds_toArray, List.set_cons_zero, List.set_cons_succ]
  refine wpAnyH_ready (rs := [8]) (by kernel_rfl) (by simp) ?_
  refine AllReadyH.cons (o := { dst := some 76, op := Op.call { callee := Callee.value (Operand.func 15), args := #[Operand.tmp 75], argTypes := #[21] }, type := _, pos := _, after := _, guard := some (1, true) }) rfl (fun K hK => ?_) AllReadyH.nil
  go_simp
  (with_reducible refine (C2.out _).mono ?_); rintro e v10_8 ⟨rfl, rfl⟩
  refine hK.out _ _ hH (fun hH2 => ?_)
  clear hK K hH; have hH := hH2; clear hH2
  try simp only [Act.put, List.setIfInBounds_toArray, List.set_cons_zero, List.set_cons_succ]
  refine wpAnyH_take (i := 9) (oi := { dst := some 77, op := Op.build 29 #[(0, Operand.tmp 73), (1, Operand.tmp 76)], type := _, pos := _, after := _, guard := some (1, true) }) (v := ?_) rfl (by kernel_rfl) (by kernel_rfl) (by kernel_rfl) (fun _ _ _ h => h) (Or.inl ⟨by rfl, ?_⟩) hH ?_
  rotate_left
  · (intro w hSw; (try dsimp only at hSw); go_simp; (try with_reducible rfl))
  try simp only [Act.put, List.setIfInBounds_toArray, List.set_cons_zero, List.set_cons_succ]
  refine wpAnyH_take (i := 10) (oi := { dst := some 78, op := Op.binOp BinOp.neq 29 (Operand.tmp 70) (Operand.tmp 77) 29, type := _, pos := _, after := _, guard := some (1, true) }) (v := ?_) rfl (by kernel_rfl) (by kernel_rfl) (by kernel_rfl) (fun _ _ _ h => h) (Or.inl ⟨by rfl, ?_⟩) hH ?_
  rotate_left
  · (intro w hSw; (try dsimp only at hSw); go_simp; (try with_reducible rfl))
  try simp only [Act.put, List.setIfInBounds_toArray, List.set_cons_zero, List.set_cons_succ]
  refine wpAnyH_take (i := 11) (oi := { dst := some 79, op := Op.move (Operand.tmp 78), type := _, pos := _, after := _, guard := some (1, true) }) (v := ?_) rfl (by kernel_rfl) (by kernel_rfl) (by kernel_rfl) (fun _ _ _ h => h) (Or.inl ⟨by rfl, ?_⟩) hH ?_
  rotate_left
  · (intro w hSw; (try dsimp only at hSw); go_simp; (try with_reducible rfl))
  try simp only [Act.put, List.setIfInBounds_toArray, List.set_cons_zero, List.set_cons_succ]
  refine wpAnyH_take (i := 12) (oi := { dst := some 80, op := Op.load 29 (Operand.tmp 10), type := _, pos := _, after := _, guard := some (11, false) }) (v := ?_) rfl (by kernel_rfl) (by kernel_rfl) (by kernel_rfl) (fun _ _ _ h => h) (Or.inl ⟨by rfl, ?_⟩) hH ?_
  rotate_left
  · (intro w hSw; (try dsimp only at hSw); go_simp; (try with_reducible rfl))
  try simp only [Act.put, List.setIfInBounds_toArray, List.set_cons_zero, List.set_cons_succ]
  refine wpAnyH_take (i := 13) (oi := { dst := some 81, op := Op.fieldAddr 25 (Operand.tmp 4) 2, type := _, pos := _, after := _, guard := some (11, false) }) (v := ?_) rfl (by kernel_rfl) (by kernel_rfl) (by kernel_rfl) (fun _ _ _ h => h) (Or.inl ⟨by rfl, ?_⟩) hH ?_
  rotate_left
  · (intro w hSw; (try dsimp only at hSw); go_simp; (try with_reducible rfl))
  try simp only [Act.put, List.setIfInBounds_toArray, List.set_cons_zero, List.set_cons_succ]
  refine wpAnyH_take (i := 14) (oi := { dst := some 82, op := Op.load 21 (Operand.tmp 81), type := _, pos := _, after := _, guard := some (11, false) }) (v := ?_) rfl (by kernel_rfl) (by kernel_rfl) (by kernel_rfl) (fun _ _ _ h => h) (Or.inl ⟨by rfl, ?_⟩) hH ?_
  rotate_left
  · (intro w hSw; (try dsimp only at hSw); go_simp; (try with_reducible rfl))
  try simp only [Act.put, List.setIfInBounds_toArray, List.set_cons_zero, List.set_cons_succ]
  refine wpAnyH_take (i := 16) (oi := { dst := some 84, op := Op.fieldAddr 25 (Operand.tmp 4) 3, type := _, pos := _, after := _, guard := some (11, false) }) (v := ?_) rfl (by kernel_rfl) (by kernel_rfl) (by kernel_rfl) (fun _ _ _ h => h) (Or.inl ⟨by rfl, ?_⟩) hH ?_
  rotate_left
  · (intro w hSw; (try dsimp only at hSw); go_simp; (try with_reducible rfl))
  try simp only [Act.put, List.setIfInBounds_toArray, List.set_cons_zero, List.set_cons_succ]
  refine wpAnyH_take (i := 17) (oi := { dst := some 85, op := Op.load 21 (Operand.tmp 84), type := _, pos := _, after := _, guard := some (11, false) }) (v := ?_) rfl (by kernel_rfl) (by kernel_rfl) (by kernel_rfl) (fun _ _ _ h => h) (Or.inl ⟨by rfl, ?_⟩) hH ?_
  rotate_left
  · (intro w hSw; (try dsimp only at hSw); go_simp; (try with_reducible rfl))
  try simp only [Act.put, List.setIfInBounds_toArray, List.set_cons_zero, List.set_cons_succ]
  refine wpAnyH_ready (rs := [15]) (by kernel_rfl) (by simp) ?_
  refine AllReadyH.cons (o := { dst := some 83, op := Op.call { callee := Callee.value (Operand.func 15), args := #[Operand.tmp 82], argTypes := #[21] }, type := _, pos := _, after := _, guard := some (11, false) }) rfl (fun K hK => ?_) AllReadyH.nil
  go_simp
  (with_reducible refine (C3.out _).mono ?_); rintro e v10_15 ⟨rfl, rfl⟩
  refine hK.out _ _ hH (fun hH2 => ?_)
  clear hK K hH; have hH := hH2; clear hH2
  try simp only [Act.put, List.setIfInBounds_toArray, List.set_cons_zero, List.set_cons_succ]
  refine wpAnyH_ready (rs := [18]) (by kernel_rfl) (by simp) ?_
  refine AllReadyH.cons (o := { dst := some 86, op := Op.call { callee := Callee.value (Operand.func 15), args := #[Operand.tmp 85], argTypes := #[21] }, type := _, pos := _, after := _, guard := some (11, false) }) rfl (fun K hK => ?_) AllReadyH.nil
  go_simp
  (with_reducible refine (C4.out _).mono ?_); rintro e v10_18 ⟨rfl, rfl⟩
  refine hK.out _ _ hH (fun hH2 => ?_)
  clear hK K hH; have hH := hH2; clear hH2
  try simp only [Act.put, List.setIfInBounds_toArray, List.set_cons_zero, List.set_cons_succ]
  refine wpAnyH_take (i := 19) (oi := { dst := some 87, op := Op.build 29 #[(0, Operand.tmp 83), (1, Operand.tmp 86)], type := _, pos := _, after := _, guard := some (11, false) }) (v := ?_) rfl (by kernel_rfl) (by kernel_rfl) (by kernel_rfl) (fun _ _ _ h => h) (Or.inl ⟨by rfl, ?_⟩) hH ?_
  rotate_left
  · (intro w hSw; (try dsimp only at hSw); go_simp; (try with_reducible rfl))
  try simp only [Act.put, List.setIfInBounds_toArray, List.set_cons_zero, List.set_cons_succ]
  refine wpAnyH_take (i := 20) (oi := { dst := some 88, op := Op.binOp BinOp.neq 29 (Operand.tmp 80) (Operand.tmp 87) 29, type := _, pos := _, after := _, guard := some (11, false) }) (v := ?_) rfl (by kernel_rfl) (by kernel_rfl) (by kernel_rfl) (fun _ _ _ h => h) (Or.inl ⟨by rfl, ?_⟩) hH ?_
  rotate_left
  · (intro w hSw; (try dsimp only at hSw); go_simp; (try with_reducible rfl))
  try simp only [Act.put, List.setIfInBounds_toArray, List.set_cons_zero, List.set_cons_succ]
  refine wpAnyH_take (i := 21) (oi := { dst := some 89, op := Op.pick (Operand.tmp 79) (Operand.const (Value.bool true)) (Operand.tmp 88), type := _, pos := _, after := _, guard := some (1, true) }) (v := ?_) rfl (by kernel_rfl) (by kernel_rfl) (by kernel_rfl) (fun _ _ _ h => h) (Or.inl ⟨by rfl, ?_⟩) hH ?_
  rotate_left
  · (intro w hSw; (try dsimp only at hSw); go_simp; (try with_reducible rfl))
  try simp only [Act.put, List.setIfInBounds_toArray, List.set_cons_zero, List.set_cons_succ]
  refine wpAnyH_take (i := 22) (oi := { dst := some 90, op := Op.pick (Operand.tmp 69) (Operand.tmp 89) (Operand.const (Value.bool false)), type := _, pos := _, after := _, guard := none }) (v := ?_) rfl (by kernel_rfl) (by kernel_rfl) (by kernel_rfl) (fun _ _ _ h => h) (Or.inl ⟨by rfl, ?_⟩) hH ?_
  rotate_left
  · (intro w hSw; (try dsimp only at hSw); go_simp; (try with_reducible rfl))
  try simp only [Act.put, List.setIfInBounds_toArray, List.set_cons_zero, List.set_cons_succ]
  refine wpAnyH_done (by kernel_rfl) ?_ _
  refine NoPanic.normal ?_
  clear n0 n1 i0 i1 i2 i3 c0 c1 r0 r1 b0 b1 b2 b3 l0 l1 h0 h1 gg
  obtain ⟨n0, n1, i0, i1, i2, i3, c0, c1, r0, r1, b0, b1, b2, b3, l0, l1, h0, h1, gg⟩ := hH
  go_wp2_with fail
  refine wp_region_noPanic ?_
  refine wp_region_held_drew (S := (fun w' => w'.cell? ⟨w.heap.size, 0, none⟩ = some (.int .i32 x) ∧ w'.cell? ⟨w.heap.size, 1, none⟩ = some (.int .i32 y) ∧ w'.cell? ⟨w.heap.size + 1, 0, none⟩ = some (.int .i32 xa) ∧ w'.cell? ⟨w.heap.size + 1, 1, none⟩ = some (.int .i32 ya) ∧ w'.cell? ⟨w.heap.size + 1, 2, none⟩ = some (.int .i32 za) ∧ w'.cell? ⟨w.heap.size + 1, 3, none⟩ = some (.int .i32 ta) ∧ w'.cell? ⟨w.heap.size + 1 + 1, 0, none⟩ = some (.int .i32 cx) ∧ w'.cell? ⟨w.heap.size + 1 + 1, 1, none⟩ = some (.int .i32 cy) ∧ w'.cell? ⟨w2.heap.size, 0, none⟩ = some (.int .i32 p) ∧ w'.cell? ⟨w2.heap.size, 1, none⟩ = some (.int .i32 q) ∧ w'.cell? ⟨v4_16.heap.size, 0, none⟩ = some (.int .i32 xa) ∧ w'.cell? ⟨v4_16.heap.size, 1, none⟩ = some (.int .i32 ya) ∧ w'.cell? ⟨v4_16.heap.size, 2, none⟩ = some (.int .i32 za) ∧ w'.cell? ⟨v4_16.heap.size, 3, none⟩ = some (.int .i32 ta) ∧ w'.cell? ⟨w5.heap.size, 0, none⟩ = some (.int .i32 p0) ∧ w'.cell? ⟨w5.heap.size, 1, none⟩ = some (.int .i32 q0) ∧ w'.cell? ⟨w5.heap.size + 1, 0, none⟩ = some (.int .i32 u0) ∧ w'.cell? ⟨w5.heap.size + 1, 1, none⟩ = some (.int .i32 v0) ∧ Kep w.heap.size w w')) (by kernel_rfl) (⟨by rw [World.cell?_drew]; exact n0, by rw [World.cell?_drew]; exact n1, by rw [World.cell?_drew]; exact i0, by rw [World.cell?_drew]; exact i1, by rw [World.cell?_drew]; exact i2, by rw [World.cell?_drew]; exact i3, by rw [World.cell?_drew]; exact c0, by rw [World.cell?_drew]; exact c1, by rw [World.cell?_drew]; exact r0, by rw [World.cell?_drew]; exact r1, by rw [World.cell?_drew]; exact b0, by rw [World.cell?_drew]; exact b1, by rw [World.cell?_drew]; exact b2, by rw [World.cell?_drew]; exact b3, by rw [World.cell?_drew]; exact l0, by rw [World.cell?_drew]; exact l1, by rw [World.cell?_drew]; exact h0, by rw [World.cell?_drew]; exact h1, kep_drew gg⟩) (fun hH => ?_)
  refine wpAnyH_take (i := 0) (oi := { dst := some 91, op := Op.load 25 (Operand.tmp 4), type := _, pos := _, after := _, guard := none }) (v := ?_) rfl (by kernel_rfl) (by kernel_rfl) (by kernel_rfl) (fun _ _ _ h => h) (Or.inl ⟨by rfl, ?_⟩) hH ?_
  rotate_left
  · (intro w hSw; (try dsimp only at hSw); go_simp; (try with_reducible rfl))
  try simp only [Act.put, List.setIfInBounds_toArray, List.set_cons_zero, List.set_cons_succ]
  refine wpAnyH_ready (rs := [1]) (by kernel_rfl) (by simp) ?_
  refine AllReadyH.cons (o := { dst := some 92, op := Op.call { callee := Callee.value (Operand.func 16), args := #[Operand.tmp 91], argTypes := #[25] }, type := _, pos := _, after := _, guard := none }) rfl (fun K hK => ?_) AllReadyH.nil
  go_simp
  (with_reducible refine (N1.out _).mono ?_); rintro e v12_1 ⟨rfl, g⟩
  refine hK.out _ _ (by (try dsimp only); (go_split_ands; exact ⟨Kep.all g (by assumption), Kep.all g (by assumption), Kep.all g (by assumption), Kep.all g (by assumption), Kep.all g (by assumption), Kep.all g (by assumption), Kep.all g (by assumption), Kep.all g (by assumption), Kep.all g (by assumption), Kep.all g (by assumption), Kep.all g (by assumption), Kep.all g (by assumption), Kep.all g (by assumption), Kep.all g (by assumption), Kep.all g (by assumption), Kep.all g (by assumption), Kep.all g (by assumption), Kep.all g (by assumption), kep_next (by assumption) g⟩)) (fun hH2 => ?_)
  clear hK K hH; have hH := hH2; clear hH2
  try simp only [Act.put, List.setIfInBounds_toArray, List.set_cons_zero, List.set_cons_succ]
  refine wpAnyH_take (i := 2) (oi := { dst := some 93, op := Op.binOp BinOp.gtr 2 (Operand.tmp 92) (Operand.const (Value.int IntKind.i64 4000)) 2, type := _, pos := _, after := _, guard := none }) (v := ?_) rfl (by kernel_rfl) (by kernel_rfl) (by kernel_rfl) (fun _ _ _ h => h) (Or.inl ⟨by rfl, ?_⟩) hH ?_
  rotate_left
  · (intro w hSw; (try dsimp only at hSw); go_simp; (try with_reducible rfl))
  try simp only [Act.put, List.setIfInBounds_toArray, List.set_cons_zero, List.set_cons_succ]
  refine wpAnyH_take (i := 3) (oi := { dst := some 94, op := Op.move (Operand.tmp 93), type := _, pos := _, after := _, guard := none }) (v := ?_) rfl (by kernel_rfl) (by kernel_rfl) (by kernel_rfl) (fun _ _ _ h => h) (Or.inl ⟨by rfl, ?_⟩) hH ?_
  rotate_left
  · (intro w hSw; (try dsimp only at hSw); go_simp; (try with_reducible rfl))
  try simp only [Act.put, List.setIfInBounds_toArray, List.set_cons_zero, List.set_cons_succ]
  refine wpAnyH_take (i := 4) (oi := { dst := some 95, op := Op.load 33 (Operand.tmp 8), type := _, pos := _, after := _, guard := some (3, false) }) (v := ?_) rfl (by kernel_rfl) (by kernel_rfl) (by kernel_rfl) (fun _ _ _ h => h) (Or.inl ⟨by rfl, ?_⟩) hH ?_
  rotate_left
  · (intro w hSw; (try dsimp only at hSw); go_simp; (try with_reducible rfl))
  try simp only [Act.put, List.setIfInBounds_toArray, List.set_cons_zero, List.set_cons_succ]
  refine wpAnyH_take (i := 6) (oi := { dst := some 97, op := Op.load 25 (Operand.tmp 4), type := _, pos := _, after := _, guard := some (3, false) }) (v := ?_) rfl (by kernel_rfl) (by kernel_rfl) (by kernel_rfl) (fun _ _ _ h => h) (Or.inl ⟨by rfl, ?_⟩) hH ?_
  rotate_left
  · (intro w hSw; (try dsimp only at hSw); go_simp; (try with_reducible rfl))
  try simp only [Act.put, List.setIfInBounds_toArray, List.set_cons_zero, List.set_cons_succ]
  refine wpAnyH_ready (rs := [5]) (by kernel_rfl) (by simp) ?_
  refine AllReadyH.cons (o := { dst := some 96, op := Op.call { callee := Callee.value (Operand.func 18), args := #[Operand.tmp 95], argTypes := #[33] }, type := _, pos := _, after := _, guard := some (3, false) }) rfl (fun K hK => ?_) AllReadyH.nil
  go_simp
  (with_reducible refine (A1.out _).mono ?_); rintro e v12_5 ⟨ta1, rfl, qta1, g⟩
  refine hK.out _ _ (by (try dsimp only); (go_split_ands; exact ⟨Kep.all g (by assumption), Kep.all g (by assumption), Kep.all g (by assumption), Kep.all g (by assumption), Kep.all g (by assumption), Kep.all g (by assumption), Kep.all g (by assumption), Kep.all g (by assumption), Kep.all g (by assumption), Kep.all g (by assumption), Kep.all g (by assumption), Kep.all g (by assumption), Kep.all g (by assumption), Kep.all g (by assumption), Kep.all g (by assumption), Kep.all g (by assumption), Kep.all g (by assumption), Kep.all g (by assumption), kep_next (by assumption) g⟩)) (fun hH2 => ?_)
  clear hK K hH; have hH := hH2; clear hH2
  try simp only [Act.put, List.setIfInBounds_toArray, List.set_cons_zero, List.set_cons_succ]
  refine wpAnyH_ready (rs := [7]) (by kernel_rfl) (by simp) ?_
  refine AllReadyH.cons (o := { dst := some 98, op := Op.call { callee := Callee.value (Operand.func 19), args := #[Operand.tmp 97], argTypes := #[25] }, type := _, pos := _, after := _, guard := some (3, false) }) rfl (fun K hK => ?_) AllReadyH.nil
  go_simp
  (with_reducible refine (A2.out _).mono ?_); rintro e v12_7 ⟨ta2, rfl, qta2, g⟩
  replace qta1 := qta1.kep g
  refine hK.out _ _ (by (try dsimp only); (go_split_ands; exact ⟨Kep.all g (by assumption), Kep.all g (by assumption), Kep.all g (by assumption), Kep.all g (by assumption), Kep.all g (by assumption), Kep.all g (by assumption), Kep.all g (by assumption), Kep.all g (by assumption), Kep.all g (by assumption), Kep.all g (by assumption), Kep.all g (by assumption), Kep.all g (by assumption), Kep.all g (by assumption), Kep.all g (by assumption), Kep.all g (by assumption), Kep.all g (by assumption), Kep.all g (by assumption), Kep.all g (by assumption), kep_next (by assumption) g⟩)) (fun hH2 => ?_)
  clear hK K hH; have hH := hH2; clear hH2
  try simp only [Act.put, List.setIfInBounds_toArray, List.set_cons_zero, List.set_cons_succ]
  refine wpAnyH_ready (rs := [8]) (by kernel_rfl) (by simp) ?_
  refine AllReadyH.cons (o := { dst := some 99, op := Op.call { callee := Callee.value (Operand.func 17), args := #[Operand.tmp 96, Operand.tmp 98], argTypes := #[40, 42] }, type := _, pos := _, after := _, guard := some (3, false) }) rfl (fun K hK => ?_) AllReadyH.nil
  go_simp
  (with_reducible refine (SA.out _ _ _ qta1 qta2).mono ?_); rintro e v12_8 ⟨rfl, g⟩
  refine hK.out _ _ (by (try dsimp only); (go_split_ands; exact ⟨Kep.all g (by assumption), Kep.all g (by assumption), Kep.all g (by assumption), Kep.all g (by assumption), Kep.all g (by assumption), Kep.all g (by assumption), Kep.all g (by assumption), Kep.all g (by assumption), Kep.all g (by assumption), Kep.all g (by assumption), Kep.all g (by assumption), Kep.all g (by assumption), Kep.all g (by assumption), Kep.all g (by assumption), Kep.all g (by assumption), Kep.all g (by assumption), Kep.all g (by assumption), Kep.all g (by assumption), kep_next (by assumption) g⟩)) (fun hH2 => ?_)
  clear hK K hH; have hH := hH2; clear hH2
  try simp only [Act.put, List.setIfInBounds_toArray, List.set_cons_zero, List.set_cons_succ]
  refine wpAnyH_take (i := 9) (oi := { dst := some 100, op := Op.pick (Operand.tmp 94) (Operand.const (Value.bool true)) (Operand.tmp 99), type := _, pos := _, after := _, guard := none }) (v := ?_) rfl (by kernel_rfl) (by kernel_rfl) (by kernel_rfl) (fun _ _ _ h => h) (Or.inl ⟨by rfl, ?_⟩) hH ?_
  rotate_left
  · (intro w hSw; (try dsimp only at hSw); go_simp; (try with_reducible rfl))
  try simp only [Act.put, List.setIfInBounds_toArray, List.set_cons_zero, List.set_cons_succ]
  refine wpAnyH_take (i := 10) (oi := { dst := some 6, op := Op.assign (Operand.tmp 100), type := _, pos := _, after := _, guard := none }) (v := ?_) rfl (by kernel_rfl) (by kernel_rfl) (by kernel_rfl) (fun _ _ _ h => h) (Or.inl ⟨by rfl, ?_⟩) hH ?_
  rotate_left
  · (intro w hSw; (try dsimp only at hSw); go_simp; (try with_reducible rfl))
  try simp only [Act.put, List.setIfInBounds_toArray, List.set_cons_zero, List.set_cons_succ]
  refine wpAnyH_done (by kernel_rfl) ?_ _
  refine NoPanic.normal ?_
  clear n0 n1 i0 i1 i2 i3 c0 c1 r0 r1 b0 b1 b2 b3 l0 l1 h0 h1 gg
  obtain ⟨n0, n1, i0, i1, i2, i3, c0, c1, r0, r1, b0, b1, b2, b3, l0, l1, h0, h1, gg⟩ := hH
  go_wp2_with fail
  go_ret
  exact ⟨rfl, gg⟩
set_option maxRecDepth 100000 in
set_option maxHeartbeats 8000000 in
theorem cml_big (x y cx cy xa ya za ta p q b c p0 q0 u0 v0 : Int) (AW : Hid CAwake) (R1 : Hid (KRe x y p q)) (E1 : Hid (CeO x y p q)) (B1 : Hid (CeB cx cy b)) (B2 : Hid (KBk cx cy b)) (S1 : Hid (CeS xa ya za ta p0 q0 u0 v0 true)) (E3 : Hid (KEm xa ya za ta false)) (N1 : Hid (KCt xa ya za ta c)) (C1 : Hid (RCl xa p0)) (C2 : Hid (RCl ya q0)) (C3 : Hid (RCl za u0)) (C4 : Hid (RCl ta v0)) (hc : decide (4000 < c) = true) (w : World) (F0 : Fac w) :
    Calls Tryd.prog 3 #[.agg #[.int .i32 x, .int .i32 y], .agg #[.int .i32 xa, .int .i32 ya, .int .i32 za, .int .i32 ta], .agg #[.int .i32 cx, .int .i32 cy]] w fun e w' => e = .returned (.bool true) ∧ Kep w.heap.size w w' := by
  have v1 := fun w => cell_neq p q w
  have bb : (b != b) = false := by simp
  have v2 := fun w => cell_neq p0 q0 w
  have v3 := fun w => cell_neq u0 v0 w
  go_enter Tryd.func3, Tryd.ntmps3
  go_wp2_with (first
    | ((with_reducible refine (AW.out _ (F0.kep (by (repeat (first | with_reducible assumption | refine kep_more ?_ _ | refine kep_drew ?_ | exact Kep.refl _ _))))).mono ?_); rintro e w1 ⟨rfl, g1⟩
       have n0 := Kep.all g1 (a := ⟨w.heap.size, 0, none⟩) (v := .int .i32 x) (by (repeat (first | rw [World.cell?_drew] | rw [World.cell?_alloc_past _ _ _ (by first | (simp; done) | (simp; omega))])); rw [World.cell?_alloc_at _ _ _ _ (by simp)]; rfl)
       have n1 := Kep.all g1 (a := ⟨w.heap.size, 1, none⟩) (v := .int .i32 y) (by (repeat (first | rw [World.cell?_drew] | rw [World.cell?_alloc_past _ _ _ (by first | (simp; done) | (simp; omega))])); rw [World.cell?_alloc_at _ _ _ _ (by simp)]; rfl)
       have i0 := Kep.all g1 (a := ⟨w.heap.size + 1, 0, none⟩) (v := .int .i32 xa) (by (repeat (first | rw [World.cell?_drew] | rw [World.cell?_alloc_past _ _ _ (by first | (simp; done) | (simp; omega))])); rw [World.cell?_alloc_at _ _ _ _ (by simp)]; rfl)
       have i1 := Kep.all g1 (a := ⟨w.heap.size + 1, 1, none⟩) (v := .int .i32 ya) (by (repeat (first | rw [World.cell?_drew] | rw [World.cell?_alloc_past _ _ _ (by first | (simp; done) | (simp; omega))])); rw [World.cell?_alloc_at _ _ _ _ (by simp)]; rfl)
       have i2 := Kep.all g1 (a := ⟨w.heap.size + 1, 2, none⟩) (v := .int .i32 za) (by (repeat (first | rw [World.cell?_drew] | rw [World.cell?_alloc_past _ _ _ (by first | (simp; done) | (simp; omega))])); rw [World.cell?_alloc_at _ _ _ _ (by simp)]; rfl)
       have i3 := Kep.all g1 (a := ⟨w.heap.size + 1, 3, none⟩) (v := .int .i32 ta) (by (repeat (first | rw [World.cell?_drew] | rw [World.cell?_alloc_past _ _ _ (by first | (simp; done) | (simp; omega))])); rw [World.cell?_alloc_at _ _ _ _ (by simp)]; rfl)
       have c0 := Kep.all g1 (a := ⟨w.heap.size + 1 + 1, 0, none⟩) (v := .int .i32 cx) (by (repeat (first | rw [World.cell?_drew] | rw [World.cell?_alloc_past _ _ _ (by first | (simp; done) | (simp; omega))])); rw [World.cell?_alloc_at _ _ _ _ (by simp)]; rfl)
       have c1 := Kep.all g1 (a := ⟨w.heap.size + 1 + 1, 1, none⟩) (v := .int .i32 cy) (by (repeat (first | rw [World.cell?_drew] | rw [World.cell?_alloc_past _ _ _ (by first | (simp; done) | (simp; omega))])); rw [World.cell?_alloc_at _ _ _ _ (by simp)]; rfl)
       have gg := kep_next (kep_more (kep_more (kep_more (Kep.refl _ _) _) _) _) g1
       have zn_w1 : w.heap.size < w1.heap.size := World.block_lt_of_cell? _ _ n0
       have zi_w1 : w.heap.size + 1 < w1.heap.size := World.block_lt_of_cell? _ _ i0
       have zc_w1 : w.heap.size + 1 + 1 < w1.heap.size := World.block_lt_of_cell? _ _ c0)
    | ((with_reducible refine (R1.out _).mono ?_); rintro e w2 ⟨rfl, g2⟩
       replace n0 := Kep.all g2 (a := ⟨w.heap.size, 0, none⟩) (v := .int .i32 x) n0
       replace n1 := Kep.all g2 (a := ⟨w.heap.size, 1, none⟩) (v := .int .i32 y) n1
       replace i0 := Kep.all g2 (a := ⟨w.heap.size + 1, 0, none⟩) (v := .int .i32 xa) i0
       replace i1 := Kep.all g2 (a := ⟨w.heap.size + 1, 1, none⟩) (v := .int .i32 ya) i1
       replace i2 := Kep.all g2 (a := ⟨w.heap.size + 1, 2, none⟩) (v := .int .i32 za) i2
       replace i3 := Kep.all g2 (a := ⟨w.heap.size + 1, 3, none⟩) (v := .int .i32 ta) i3
       replace c0 := Kep.all g2 (a := ⟨w.heap.size + 1 + 1, 0, none⟩) (v := .int .i32 cx) c0
       replace c1 := Kep.all g2 (a := ⟨w.heap.size + 1 + 1, 1, none⟩) (v := .int .i32 cy) c1
       replace gg := kep_next gg g2
       have zn_w2 : w.heap.size < w2.heap.size := World.block_lt_of_cell? _ _ n0
       have zi_w2 : w.heap.size + 1 < w2.heap.size := World.block_lt_of_cell? _ _ i0
       have zc_w2 : w.heap.size + 1 + 1 < w2.heap.size := World.block_lt_of_cell? _ _ c0))
  obtain ⟨W, hW⟩ : ∃ W, W = World.alloc w2 (.cells #[.int .i32 p, .int .i32 q] 26) := ⟨_, rfl⟩
  rw [← hW]
  replace n0 : W.cell? ⟨w.heap.size, 0, none⟩ = some (.int .i32 x) := by rw [hW]; exact (Kep.all (kep_more (Kep.refl _ _) _) n0)
  replace n1 : W.cell? ⟨w.heap.size, 1, none⟩ = some (.int .i32 y) := by rw [hW]; exact (Kep.all (kep_more (Kep.refl _ _) _) n1)
  replace i0 : W.cell? ⟨w.heap.size + 1, 0, none⟩ = some (.int .i32 xa) := by rw [hW]; exact (Kep.all (kep_more (Kep.refl _ _) _) i0)
  replace i1 : W.cell? ⟨w.heap.size + 1, 1, none⟩ = some (.int .i32 ya) := by rw [hW]; exact (Kep.all (kep_more (Kep.refl _ _) _) i1)
  replace i2 : W.cell? ⟨w.heap.size + 1, 2, none⟩ = some (.int .i32 za) := by rw [hW]; exact (Kep.all (kep_more (Kep.refl _ _) _) i2)
  replace i3 : W.cell? ⟨w.heap.size + 1, 3, none⟩ = some (.int .i32 ta) := by rw [hW]; exact (Kep.all (kep_more (Kep.refl _ _) _) i3)
  replace c0 : W.cell? ⟨w.heap.size + 1 + 1, 0, none⟩ = some (.int .i32 cx) := by rw [hW]; exact (Kep.all (kep_more (Kep.refl _ _) _) c0)
  replace c1 : W.cell? ⟨w.heap.size + 1 + 1, 1, none⟩ = some (.int .i32 cy) := by rw [hW]; exact (Kep.all (kep_more (Kep.refl _ _) _) c1)
  have r0 : W.cell? ⟨w2.heap.size, 0, none⟩ = some (.int .i32 p) := by rw [hW]; (repeat (first | rw [World.cell?_drew] | rw [World.cell?_alloc_past _ _ _ (by first | (simp; done) | (simp; omega))])); rw [World.cell?_alloc_at _ _ _ _ (by simp)]; rfl
  have r1 : W.cell? ⟨w2.heap.size, 1, none⟩ = some (.int .i32 q) := by rw [hW]; (repeat (first | rw [World.cell?_drew] | rw [World.cell?_alloc_past _ _ _ (by first | (simp; done) | (simp; omega))])); rw [World.cell?_alloc_at _ _ _ _ (by simp)]; rfl
  replace gg : Kep w.heap.size w W := by rw [hW]; exact kep_more gg _
  clear hW
  refine wp_region_noPanic ?_
  refine wp_region_held_drew (S := (fun w' => w'.cell? ⟨w.heap.size, 0, none⟩ = some (.int .i32 x) ∧ w'.cell? ⟨w.heap.size, 1, none⟩ = some (.int .i32 y) ∧ w'.cell? ⟨w.heap.size + 1, 0, none⟩ = some (.int .i32 xa) ∧ w'.cell? ⟨w.heap.size + 1, 1, none⟩ = some (.int .i32 ya) ∧ w'.cell? ⟨w.heap.size + 1, 2, none⟩ = some (.int .i32 za) ∧ w'.cell? ⟨w.heap.size + 1, 3, none⟩ = some (.int .i32 ta) ∧ w'.cell? ⟨w.heap.size + 1 + 1, 0, none⟩ = some (.int .i32 cx) ∧ w'.cell? ⟨w.heap.size + 1 + 1, 1, none⟩ = some (.int .i32 cy) ∧ w'.cell? ⟨w2.heap.size, 0, none⟩ = some (.int .i32 p) ∧ w'.cell? ⟨w2.heap.size, 1, none⟩ = some (.int .i32 q) ∧ Kep w.heap.size w w')) (by kernel_rfl) (⟨by rw [World.cell?_drew]; exact n0, by rw [World.cell?_drew]; exact n1, by rw [World.cell?_drew]; exact i0, by rw [World.cell?_drew]; exact i1, by rw [World.cell?_drew]; exact i2, by rw [World.cell?_drew]; exact i3, by rw [World.cell?_drew]; exact c0, by rw [World.cell?_drew]; exact c1, by rw [World.cell?_drew]; exact r0, by rw [World.cell?_drew]; exact r1, kep_drew gg⟩) (fun hH => ?_)
  refine wpAnyH_take (i := 0) (oi := { dst := some 16, op := Op.load 23 (Operand.tmp 3), type := _, pos := _, after := _, guard := none }) (v := ?_) rfl (by kernel_rfl) (by kernel_rfl) (by kernel_rfl) (fun _ _ _ h => h) (Or.inl ⟨by rfl, ?_⟩) hH ?_
  rotate_left
  · (intro w hSw; (try dsimp only at hSw); go_simp; (try with_reducible rfl))
  try simp only [Act.put, List.setIfInBounds_toArray, List.set_cons_zero, List.set_cons_succ]
  refine wpAnyH_take (i := 2) (oi := { dst := some 18, op := Op.fieldAddr 26 (Operand.tmp 7) 0, type := _, pos := _, after := _, guard := none }) (v := ?_) rfl (by kernel_rfl) (by kernel_rfl) (by kernel_rfl) (fun _ _ _ h => h) (Or.inl ⟨by rfl, ?_⟩) hH ?_
  rotate_left
  · (intro w hSw; (try dsimp only at hSw); go_simp; (try with_reducible rfl))
  try simp only [Act.put, List.setIfInBounds_toArray, List.set_cons_zero, List.set_cons_succ]
  refine wpAnyH_take (i := 3) (oi := { dst := some 19, op := Op.load 21 (Operand.tmp 18), type := _, pos := _, after := _, guard := none }) (v := ?_) rfl (by kernel_rfl) (by kernel_rfl) (by kernel_rfl) (fun _ _ _ h => h) (Or.inl ⟨by rfl, ?_⟩) hH ?_
  rotate_left
  · (intro w hSw; (try dsimp only at hSw); go_simp; (try with_reducible rfl))
  try simp only [Act.put, List.setIfInBounds_toArray, List.set_cons_zero, List.set_cons_succ]
  refine wpAnyH_take (i := 4) (oi := { dst := some 20, op := Op.fieldAddr 26 (Operand.tmp 7) 1, type := _, pos := _, after := _, guard := none }) (v := ?_) rfl (by kernel_rfl) (by kernel_rfl) (by kernel_rfl) (fun _ _ _ h => h) (Or.inl ⟨by rfl, ?_⟩) hH ?_
  rotate_left
  · (intro w hSw; (try dsimp only at hSw); go_simp; (try with_reducible rfl))
  try simp only [Act.put, List.setIfInBounds_toArray, List.set_cons_zero, List.set_cons_succ]
  refine wpAnyH_take (i := 5) (oi := { dst := some 21, op := Op.load 21 (Operand.tmp 20), type := _, pos := _, after := _, guard := none }) (v := ?_) rfl (by kernel_rfl) (by kernel_rfl) (by kernel_rfl) (fun _ _ _ h => h) (Or.inl ⟨by rfl, ?_⟩) hH ?_
  rotate_left
  · (intro w hSw; (try dsimp only at hSw); go_simp; (try with_reducible rfl))
  try simp only [Act.put, List.setIfInBounds_toArray, List.set_cons_zero, List.set_cons_succ]
  refine wpAnyH_take (i := 6) (oi := { dst := some 22, op := Op.build 29 #[(0, Operand.tmp 19), (1, Operand.tmp 21)], type := _, pos := _, after := _, guard := none }) (v := ?_) rfl (by kernel_rfl) (by kernel_rfl) (by kernel_rfl) (fun _ _ _ h => h) (Or.inl ⟨by rfl, ?_⟩) hH ?_
  rotate_left
  · (intro w hSw; (try dsimp only at hSw); go_simp; (try with_reducible rfl))
  try simp only [Act.put, List.setIfInBounds_toArray, List.set_cons_zero, List.set_cons_succ]
  refine wpAnyH_ready (rs := [1]) (by kernel_rfl) (by simp) ?_
  refine AllReadyH.cons (o := { dst := some 17, op := Op.call { callee := Callee.value (Operand.func 10), args := #[Operand.tmp 16], argTypes := #[23] }, type := _, pos := _, after := _, guard := none }) rfl (fun K hK => ?_) AllReadyH.nil
  go_simp
  (with_reducible refine (E1.out _).mono ?_); rintro e v4_1 ⟨rfl, g⟩
  refine hK.out _ _ (by (try dsimp only); (go_split_ands; exact ⟨Kep.all g (by assumption), Kep.all g (by assumption), Kep.all g (by assumption), Kep.all g (by assumption), Kep.all g (by assumption), Kep.all g (by assumption), Kep.all g (by assumption), Kep.all g (by assumption), Kep.all g (by assumption), Kep.all g (by assumption), kep_next (by assumption) g⟩)) (fun hH2 => ?_)
  clear hK K hH; have hH := hH2; clear hH2
  try simp only [Act.put, List.setIfInBounds_toArray, List.set_cons_zero, List.set_cons_succ]
  refine wpAnyH_take (i := 7) (oi := { dst := some 23, op := Op.binOp BinOp.neq 29 (Operand.tmp 17) (Operand.tmp 22) 29, type := _, pos := _, after := _, guard := none }) (v := ?_) rfl (by kernel_rfl) (by kernel_rfl) (by kernel_rfl) (fun _ _ _ h => h) (Or.inl ⟨by rfl, ?_⟩) hH ?_
  rotate_left
  · (intro w hSw; (try dsimp only at hSw); go_simp; (try with_reducible rfl))
  try simp only [Act.put, List.setIfInBounds_toArray, List.set_cons_zero, List.set_cons_succ]
  refine wpAnyH_take (i := 8) (oi := { dst := some 24, op := Op.move (Operand.tmp 23), type := _, pos := _, after := _, guard := none }) (v := ?_) rfl (by kernel_rfl) (by kernel_rfl) (by kernel_rfl) (fun _ _ _ h => h) (Or.inl ⟨by rfl, ?_⟩) hH ?_
  rotate_left
  · (intro w hSw; (try dsimp only at hSw); go_simp; (try with_reducible rfl))
  try simp only [Act.put, List.setIfInBounds_toArray, List.set_cons_zero, List.set_cons_succ]
  refine wpAnyH_take (i := 9) (oi := { dst := some 25, op := Op.fieldAddr 26 (Operand.tmp 5) 0, type := _, pos := _, after := _, guard := some (8, false) }) (v := ?_) rfl (by kernel_rfl) (by kernel_rfl) (by kernel_rfl) (fun _ _ _ h => h) (Or.inl ⟨by rfl, ?_⟩) hH ?_
  rotate_left
  · (intro w hSw; (try dsimp only at hSw); go_simp; (try with_reducible rfl))
  try simp only [Act.put, List.setIfInBounds_toArray, List.set_cons_zero, List.set_cons_succ]
  refine wpAnyH_take (i := 10) (oi := { dst := some 26, op := Op.load 21 (Operand.tmp 25), type := _, pos := _, after := _, guard := some (8, false) }) (v := ?_) rfl (by kernel_rfl) (by kernel_rfl) (by kernel_rfl) (fun _ _ _ h => h) (Or.inl ⟨by rfl, ?_⟩) hH ?_
  rotate_left
  · (intro w hSw; (try dsimp only at hSw); go_simp; (try with_reducible rfl))
  try simp only [Act.put, List.setIfInBounds_toArray, List.set_cons_zero, List.set_cons_succ]
  refine wpAnyH_take (i := 11) (oi := { dst := some 27, op := Op.fieldAddr 26 (Operand.tmp 5) 1, type := _, pos := _, after := _, guard := some (8, false) }) (v := ?_) rfl (by kernel_rfl) (by kernel_rfl) (by kernel_rfl) (fun _ _ _ h => h) (Or.inl ⟨by rfl, ?_⟩) hH ?_
  rotate_left
  · (intro w hSw; (try dsimp only at hSw); go_simp; (try with_reducible rfl))
  try simp only [Act.put, List.setIfInBounds_toArray, List.set_cons_zero, List.set_cons_succ]
  refine wpAnyH_take (i := 12) (oi := { dst := some 28, op := Op.load 21 (Operand.tmp 27), type := _, pos := _, after := _, guard := some (8, false) }) (v := ?_) rfl (by kernel_rfl) (by kernel_rfl) (by kernel_rfl) (fun _ _ _ h => h) (Or.inl ⟨by rfl, ?_⟩) hH ?_
  rotate_left
  · (intro w hSw; (try dsimp only at hSw); go_simp; (try with_reducible rfl))
  try simp only [Act.put, List.setIfInBounds_toArray, List.set_cons_zero, List.set_cons_succ]
  refine wpAnyH_take (i := 13) (oi := { dst := some 29, op := Op.build 29 #[(0, Operand.tmp 26), (1, Operand.tmp 28)], type := _, pos := _, after := _, guard := some (8, false) }) (v := ?_) rfl (by kernel_rfl) (by kernel_rfl) (by kernel_rfl) (fun _ _ _ h => h) (Or.inl ⟨by rfl, ?_⟩) hH ?_
  rotate_left
  · (intro w hSw; (try dsimp only at hSw); go_simp; (try with_reducible rfl))
  try simp only [Act.put, List.setIfInBounds_toArray, List.set_cons_zero, List.set_cons_succ]
  refine wpAnyH_take (i := 15) (oi := { dst := some 31, op := Op.load 26 (Operand.tmp 5), type := _, pos := _, after := _, guard := some (8, false) }) (v := ?_) rfl (by kernel_rfl) (by kernel_rfl) (by kernel_rfl) (fun _ _ _ h => h) (Or.inl ⟨by rfl, ?_⟩) hH ?_
  rotate_left
  · (intro w hSw; (try dsimp only at hSw); go_simp; (try with_reducible rfl))
  try simp only [Act.put, List.setIfInBounds_toArray, List.set_cons_zero, List.set_cons_succ]
  refine wpAnyH_ready (rs := [14]) (by kernel_rfl) (by simp) ?_
  refine AllReadyH.cons (o := { dst := some 30, op := Op.call { callee := Callee.value (Operand.func 11), args := #[Operand.tmp 29], argTypes := #[29] }, type := _, pos := _, after := _, guard := some (8, false) }) rfl (fun K hK => ?_) AllReadyH.nil
  go_simp
  (with_reducible refine (B1.out _ (F0.kep hH.2.2.2.2.2.2.2.2.2.2)).mono ?_); rintro e v4_14 ⟨rfl, g⟩
  refine hK.out _ _ (by (try dsimp only); (go_split_ands; exact ⟨Kep.all g (by assumption), Kep.all g (by assumption), Kep.all g (by assumption), Kep.all g (by assumption), Kep.all g (by assumption), Kep.all g (by assumption), Kep.all g (by assumption), Kep.all g (by assumption), Kep.all g (by assumption), Kep.all g (by assumption), kep_next (by assumption) g⟩)) (fun hH2 => ?_)
  clear hK K hH; have hH := hH2; clear hH2
  try simp only [Act.put, List.setIfInBounds_toArray, List.set_cons_zero, List.set_cons_succ]
  refine wpAnyH_ready (rs := [16]) (by kernel_rfl) (by simp) ?_
  refine AllReadyH.cons (o := { dst := some 32, op := Op.call { callee := Callee.value (Operand.func 12), args := #[Operand.tmp 31], argTypes := #[26] }, type := _, pos := _, after := _, guard := some (8, false) }) rfl (fun K hK => ?_) AllReadyH.nil
  go_simp
  (with_reducible refine (B2.out _).mono ?_); rintro e v4_16 ⟨rfl, g⟩
  refine hK.out _ _ (by (try dsimp only); (go_split_ands; exact ⟨Kep.all g (by assumption), Kep.all g (by assumption), Kep.all g (by assumption), Kep.all g (by assumption), Kep.all g (by assumption), Kep.all g (by assumption), Kep.all g (by assumption), Kep.all g (by assumption), Kep.all g (by assumption), Kep.all g (by assumption), kep_next (by assumption) g⟩)) (fun hH2 => ?_)
  clear hK K hH; have hH := hH2; clear hH2
  try simp only [Act.put, List.setIfInBounds_toArray, List.set_cons_zero, List.set_cons_succ]
  refine wpAnyH_take (i := 17) (oi := { dst := some 33, op := Op.binOp BinOp.neq 3 (Operand.tmp 30) (Operand.tmp 32) 3, type := _, pos := _, after := _, guard := some (8, false) }) (v := ?_) rfl (by kernel_rfl) (by kernel_rfl) (by kernel_rfl) (fun _ _ _ h => h) (Or.inl ⟨by rfl, ?_⟩) hH ?_
  rotate_left
  · (intro w hSw; (try dsimp only at hSw); go_simp; (try with_reducible rfl))
  try simp only [Act.put, List.setIfInBounds_toArray, List.set_cons_zero, List.set_cons_succ]
  refine wpAnyH_take (i := 18) (oi := { dst := some 34, op := Op.pick (Operand.tmp 24) (Operand.const (Value.bool true)) (Operand.tmp 33), type := _, pos := _, after := _, guard := none }) (v := ?_) rfl (by kernel_rfl) (by kernel_rfl) (by kernel_rfl) (fun _ _ _ h => h) (Or.inl ⟨by rfl, ?_⟩) hH ?_
  rotate_left
  · (intro w hSw; (try dsimp only at hSw); go_simp; (try with_reducible rfl))
  try simp only [Act.put, List.setIfInBounds_toArray, List.set_cons_zero, List.set_cons_succ]
  refine wpAnyH_done (by kernel_rfl) ?_ _
  refine NoPanic.normal ?_
  clear n0 n1 i0 i1 i2 i3 c0 c1 r0 r1 gg
  obtain ⟨n0, n1, i0, i1, i2, i3, c0, c1, r0, r1, gg⟩ := hH
  go_wp2_with (first
    | ((with_reducible refine (S1.out _).mono ?_); rintro e w5 ⟨rfl, g5⟩
       replace n0 := Kep.all g5 (a := ⟨w.heap.size, 0, none⟩) (v := .int .i32 x) (Kep.all (kep_more (Kep.refl _ _) _) n0)
       replace n1 := Kep.all g5 (a := ⟨w.heap.size, 1, none⟩) (v := .int .i32 y) (Kep.all (kep_more (Kep.refl _ _) _) n1)
       replace i0 := Kep.all g5 (a := ⟨w.heap.size + 1, 0, none⟩) (v := .int .i32 xa) (Kep.all (kep_more (Kep.refl _ _) _) i0)
       replace i1 := Kep.all g5 (a := ⟨w.heap.size + 1, 1, none⟩) (v := .int .i32 ya) (Kep.all (kep_more (Kep.refl _ _) _) i1)
       replace i2 := Kep.all g5 (a := ⟨w.heap.size + 1, 2, none⟩) (v := .int .i32 za) (Kep.all (kep_more (Kep.refl _ _) _) i2)
       replace i3 := Kep.all g5 (a := ⟨w.heap.size + 1, 3, none⟩) (v := .int .i32 ta) (Kep.all (kep_more (Kep.refl _ _) _) i3)
       replace c0 := Kep.all g5 (a := ⟨w.heap.size + 1 + 1, 0, none⟩) (v := .int .i32 cx) (Kep.all (kep_more (Kep.refl _ _) _) c0)
       replace c1 := Kep.all g5 (a := ⟨w.heap.size + 1 + 1, 1, none⟩) (v := .int .i32 cy) (Kep.all (kep_more (Kep.refl _ _) _) c1)
       replace r0 := Kep.all g5 (a := ⟨w2.heap.size, 0, none⟩) (v := .int .i32 p) (Kep.all (kep_more (Kep.refl _ _) _) r0)
       replace r1 := Kep.all g5 (a := ⟨w2.heap.size, 1, none⟩) (v := .int .i32 q) (Kep.all (kep_more (Kep.refl _ _) _) r1)
       have b0 := Kep.all g5 (a := ⟨v4_16.heap.size, 0, none⟩) (v := .int .i32 xa) (by (repeat (first | rw [World.cell?_drew] | rw [World.cell?_alloc_past _ _ _ (by first | (simp; done) | (simp; omega))])); rw [World.cell?_alloc_at _ _ _ _ (by simp)]; rfl)
       have b1 := Kep.all g5 (a := ⟨v4_16.heap.size, 1, none⟩) (v := .int .i32 ya) (by (repeat (first | rw [World.cell?_drew] | rw [World.cell?_alloc_past _ _ _ (by first | (simp; done) | (simp; omega))])); rw [World.cell?_alloc_at _ _ _ _ (by simp)]; rfl)
       have b2 := Kep.all g5 (a := ⟨v4_16.heap.size, 2, none⟩) (v := .int .i32 za) (by (repeat (first | rw [World.cell?_drew] | rw [World.cell?_alloc_past _ _ _ (by first | (simp; done) | (simp; omega))])); rw [World.cell?_alloc_at _ _ _ _ (by simp)]; rfl)
       have b3 := Kep.all g5 (a := ⟨v4_16.heap.size, 3, none⟩) (v := .int .i32 ta) (by (repeat (first | rw [World.cell?_drew] | rw [World.cell?_alloc_past _ _ _ (by first | (simp; done) | (simp; omega))])); rw [World.cell?_alloc_at _ _ _ _ (by simp)]; rfl)
       replace gg := kep_next (kep_more gg _) g5
       have zn_w5 : w.heap.size < w5.heap.size := World.block_lt_of_cell? _ _ n0
       have zi_w5 : w.heap.size + 1 < w5.heap.size := World.block_lt_of_cell? _ _ i0
       have zc_w5 : w.heap.size + 1 + 1 < w5.heap.size := World.block_lt_of_cell? _ _ c0
       have zr_w5 : w2.heap.size < w5.heap.size := World.block_lt_of_cell? _ _ r0
       have zb_w5 : v4_16.heap.size < w5.heap.size := World.block_lt_of_cell? _ _ b0)
    | ((with_reducible refine (E3.out _).mono ?_); rintro e w6 ⟨rfl, g6⟩
       replace n0 := Kep.all g6 (a := ⟨w.heap.size, 0, none⟩) (v := .int .i32 x) (Kep.all (kep_more (kep_more (Kep.refl _ _) _) _) n0)
       replace n1 := Kep.all g6 (a := ⟨w.heap.size, 1, none⟩) (v := .int .i32 y) (Kep.all (kep_more (kep_more (Kep.refl _ _) _) _) n1)
       replace i0 := Kep.all g6 (a := ⟨w.heap.size + 1, 0, none⟩) (v := .int .i32 xa) (Kep.all (kep_more (kep_more (Kep.refl _ _) _) _) i0)
       replace i1 := Kep.all g6 (a := ⟨w.heap.size + 1, 1, none⟩) (v := .int .i32 ya) (Kep.all (kep_more (kep_more (Kep.refl _ _) _) _) i1)
       replace i2 := Kep.all g6 (a := ⟨w.heap.size + 1, 2, none⟩) (v := .int .i32 za) (Kep.all (kep_more (kep_more (Kep.refl _ _) _) _) i2)
       replace i3 := Kep.all g6 (a := ⟨w.heap.size + 1, 3, none⟩) (v := .int .i32 ta) (Kep.all (kep_more (kep_more (Kep.refl _ _) _) _) i3)
       replace c0 := Kep.all g6 (a := ⟨w.heap.size + 1 + 1, 0, none⟩) (v := .int .i32 cx) (Kep.all (kep_more (kep_more (Kep.refl _ _) _) _) c0)
       replace c1 := Kep.all g6 (a := ⟨w.heap.size + 1 + 1, 1, none⟩) (v := .int .i32 cy) (Kep.all (kep_more (kep_more (Kep.refl _ _) _) _) c1)
       replace r0 := Kep.all g6 (a := ⟨w2.heap.size, 0, none⟩) (v := .int .i32 p) (Kep.all (kep_more (kep_more (Kep.refl _ _) _) _) r0)
       replace r1 := Kep.all g6 (a := ⟨w2.heap.size, 1, none⟩) (v := .int .i32 q) (Kep.all (kep_more (kep_more (Kep.refl _ _) _) _) r1)
       replace b0 := Kep.all g6 (a := ⟨v4_16.heap.size, 0, none⟩) (v := .int .i32 xa) (Kep.all (kep_more (kep_more (Kep.refl _ _) _) _) b0)
       replace b1 := Kep.all g6 (a := ⟨v4_16.heap.size, 1, none⟩) (v := .int .i32 ya) (Kep.all (kep_more (kep_more (Kep.refl _ _) _) _) b1)
       replace b2 := Kep.all g6 (a := ⟨v4_16.heap.size, 2, none⟩) (v := .int .i32 za) (Kep.all (kep_more (kep_more (Kep.refl _ _) _) _) b2)
       replace b3 := Kep.all g6 (a := ⟨v4_16.heap.size, 3, none⟩) (v := .int .i32 ta) (Kep.all (kep_more (kep_more (Kep.refl _ _) _) _) b3)
       have l0 := Kep.all g6 (a := ⟨w5.heap.size, 0, none⟩) (v := .int .i32 p0) (by (repeat (first | rw [World.cell?_drew] | rw [World.cell?_alloc_past _ _ _ (by first | (simp; done) | (simp; omega))])); rw [World.cell?_alloc_at _ _ _ _ (by simp)]; rfl)
       have l1 := Kep.all g6 (a := ⟨w5.heap.size, 1, none⟩) (v := .int .i32 q0) (by (repeat (first | rw [World.cell?_drew] | rw [World.cell?_alloc_past _ _ _ (by first | (simp; done) | (simp; omega))])); rw [World.cell?_alloc_at _ _ _ _ (by simp)]; rfl)
       have h0 := Kep.all g6 (a := ⟨w5.heap.size + 1, 0, none⟩) (v := .int .i32 u0) (by (repeat (first | rw [World.cell?_drew] | rw [World.cell?_alloc_past _ _ _ (by first | (simp; done) | (simp; omega))])); rw [World.cell?_alloc_at _ _ _ _ (by simp)]; rfl)
       have h1 := Kep.all g6 (a := ⟨w5.heap.size + 1, 1, none⟩) (v := .int .i32 v0) (by (repeat (first | rw [World.cell?_drew] | rw [World.cell?_alloc_past _ _ _ (by first | (simp; done) | (simp; omega))])); rw [World.cell?_alloc_at _ _ _ _ (by simp)]; rfl)
       replace gg := kep_next (kep_more (kep_more gg _) _) g6
       have zn_w6 : w.heap.size < w6.heap.size := World.block_lt_of_cell? _ _ n0
       have zi_w6 : w.heap.size + 1 < w6.heap.size := World.block_lt_of_cell? _ _ i0
       have zc_w6 : w.heap.size + 1 + 1 < w6.heap.size := World.block_lt_of_cell? _ _ c0
       have zr_w6 : w2.heap.size < w6.heap.size := World.block_lt_of_cell? _ _ r0
       have zb_w6 : v4_16.heap.size < w6.heap.size := World.block_lt_of_cell? _ _ b0
       have zl_w6 : w5.heap.size < w6.heap.size := World.block_lt_of_cell? _ _ l0
       have zh_w6 : w5.heap.size + 1 < w6.heap.size := World.block_lt_of_cell? _ _ h0))
  refine wp_region_noPanic ?_
  refine wp_region_held_drew (S := (fun w' => w'.cell? ⟨w.heap.size, 0, none⟩ = some (.int .i32 x) ∧ w'.cell? ⟨w.heap.size, 1, none⟩ = some (.int .i32 y) ∧ w'.cell? ⟨w.heap.size + 1, 0, none⟩ = some (.int .i32 xa) ∧ w'.cell? ⟨w.heap.size + 1, 1, none⟩ = some (.int .i32 ya) ∧ w'.cell? ⟨w.heap.size + 1, 2, none⟩ = some (.int .i32 za) ∧ w'.cell? ⟨w.heap.size + 1, 3, none⟩ = some (.int .i32 ta) ∧ w'.cell? ⟨w.heap.size + 1 + 1, 0, none⟩ = some (.int .i32 cx) ∧ w'.cell? ⟨w.heap.size + 1 + 1, 1, none⟩ = some (.int .i32 cy) ∧ w'.cell? ⟨w2.heap.size, 0, none⟩ = some (.int .i32 p) ∧ w'.cell? ⟨w2.heap.size, 1, none⟩ = some (.int .i32 q) ∧ w'.cell? ⟨v4_16.heap.size, 0, none⟩ = some (.int .i32 xa) ∧ w'.cell? ⟨v4_16.heap.size, 1, none⟩ = some (.int .i32 ya) ∧ w'.cell? ⟨v4_16.heap.size, 2, none⟩ = some (.int .i32 za) ∧ w'.cell? ⟨v4_16.heap.size, 3, none⟩ = some (.int .i32 ta) ∧ w'.cell? ⟨w5.heap.size, 0, none⟩ = some (.int .i32 p0) ∧ w'.cell? ⟨w5.heap.size, 1, none⟩ = some (.int .i32 q0) ∧ w'.cell? ⟨w5.heap.size + 1, 0, none⟩ = some (.int .i32 u0) ∧ w'.cell? ⟨w5.heap.size + 1, 1, none⟩ = some (.int .i32 v0) ∧ Kep w.heap.size w w')) (by kernel_rfl) (⟨by rw [World.cell?_drew]; exact n0, by rw [World.cell?_drew]; exact n1, by rw [World.cell?_drew]; exact i0, by rw [World.cell?_drew]; exact i1, by rw [World.cell?_drew]; exact i2, by rw [World.cell?_drew]; exact i3, by rw [World.cell?_drew]; exact c0, by rw [World.cell?_drew]; exact c1, by rw [World.cell?_drew]; exact r0, by rw [World.cell?_drew]; exact r1, by rw [World.cell?_drew]; exact b0, by rw [World.cell?_drew]; exact b1, by rw [World.cell?_drew]; exact b2, by rw [World.cell?_drew]; exact b3, by rw [World.cell?_drew]; exact l0, by rw [World.cell?_drew]; exact l1, by rw [World.cell?_drew]; exact h0, by rw [World.cell?_drew]; exact h1, kep_drew gg⟩) (fun hH => ?_)
  refine wpAnyH_take (i := 0) (oi := { dst := some 68, op := Op.move (Operand.tmp 11), type := _, pos := _, after := _, guard := none }) (v := ?_) rfl (by kernel_rfl) (by kernel_rfl) (by kernel_rfl) (fun _ _ _ h => h) (Or.inl ⟨by rfl, ?_⟩) hH ?_
  rotate_left
  · (intro w hSw; (try dsimp only at hSw); go_simp; (try with_reducible rfl))
  try simp only [Act.put, List.setIfInBounds_toArray, List.set_cons_zero, List.set_cons_succ]
  refine wpAnyH_take (i := 1) (oi := { dst := some 69, op := Op.move (Operand.tmp 68), type := _, pos := _, after := _, guard := none }) (v := ?_) rfl (by kernel_rfl) (by kernel_rfl) (by kernel_rfl) (fun _ _ _ h => h) (Or.inl ⟨by rfl, ?_⟩) hH ?_
  rotate_left
  · (intro w hSw; (try dsimp only at hSw); go_simp; (try with_reducible rfl))
  try simp only [Act.put, List.setIfInBounds_toArray, List.set_cons_zero, List.set_cons_succ]
  refine wpAnyH_take (i := 2) (oi := { dst := some 70, op := Op.load 29 (Operand.tmp 9), type := _, pos := _, after := _, guard := some (1, true) }) (v := ?_) rfl (by kernel_rfl) (by kernel_rfl) (by kernel_rfl) (fun _ _ _ h => h) (Or.inl ⟨by rfl, ?_⟩) hH ?_
  rotate_left
  · (intro w hSw; (try dsimp only at hSw); go_simp; (try with_reducible rfl))
  try simp only [Act.put, List.setIfInBounds_toArray, List.set_cons_zero, List.set_cons_succ]
  refine wpAnyH_take (i := 3) (oi := { dst := some 71, op := Op.fieldAddr 25 (Operand.tmp 4) 0, type := _, pos := _, after := _, guard := some (1, true) }) (v := ?_) rfl (by kernel_rfl) (by kernel_rfl) (by kernel_rfl) (fun _ _ _ h => h) (Or.inl ⟨by rfl, ?_⟩) hH ?_
  rotate_left
  · (intro w hSw; (try dsimp only at hSw); go_simp; (try with_reducible rfl))
  try simp only [Act.put, List.setIfInBounds_toArray, List.set_cons_zero, List.set_cons_succ]
  refine wpAnyH_take (i := 4) (oi := { dst := some 72, op := Op.load 21 (Operand.tmp 71), type := _, pos := _, after := _, guard := some (1, true) }) (v := ?_) rfl (by kernel_rfl) (by kernel_rfl) (by kernel_rfl) (fun _ _ _ h => h) (Or.inl ⟨by rfl, ?_⟩) hH ?_
  rotate_left
  · (intro w hSw; (try dsimp only at hSw); go_simp; (try with_reducible rfl))
  try simp only [Act.put, List.setIfInBounds_toArray, List.set_cons_zero, List.set_cons_succ]
  refine wpAnyH_take (i := 6) (oi := { dst := some 74, op := Op.fieldAddr 25 (Operand.tmp 4) 1, type := _, pos := _, after := _, guard := some (1, true) }) (v := ?_) rfl (by kernel_rfl) (by kernel_rfl) (by kernel_rfl) (fun _ _ _ h => h) (Or.inl ⟨by rfl, ?_⟩) hH ?_
  rotate_left
  · (intro w hSw; (try dsimp only at hSw); go_simp; (try with_reducible rfl))
  try simp only [Act.put, List.setIfInBounds_toArray, List.set_cons_zero, List.set_cons_succ]
  refine wpAnyH_take (i := 7) (oi := { dst := some 75, op := Op.load 21 (Operand.tmp 74), type := _, pos := _, after := _, guard := some (1, true) }) (v := ?_) rfl (by kernel_rfl) (by kernel_rfl) (by kernel_rfl) (fun _ _ _ h => h) (Or.inl ⟨by rfl, ?_⟩) hH ?_
  rotate_left
  · (intro w hSw; (try dsimp only at hSw); go_simp; (try with_reducible rfl))
  try simp only [Act.put, List.setIfInBounds_toArray, List.set_cons_zero, List.set_cons_succ]
  refine wpAnyH_ready (rs := [5]) (by kernel_rfl) (by simp) ?_
  refine AllReadyH.cons (o := { dst := some 73, op := Op.call { callee := Callee.value (Operand.func 15), args := #[Operand.tmp 72], argTypes := #[21] }, type := _, pos := _, after := _, guard := some (1, true) }) rfl (fun K hK => ?_) AllReadyH.nil
  go_simp
  (with_reducible refine (C1.out _).mono ?_); rintro e v10_5 ⟨rfl, rfl⟩
  refine hK.out _ _ hH (fun hH2 => ?_)
  clear hK K hH; have hH := hH2; clear hH2
  try simp only [Act.put, List.setIfInBounds_toArray, List.set_cons_zero, List.set_cons_succ]
  refine wpAnyH_ready (rs := [8]) (by kernel_rfl) (by simp) ?_
  refine AllReadyH.cons (o := { dst := some 76, op := Op.call { callee := Callee.value (Operand.func 15), args := #[Operand.tmp 75], argTypes := #[21] }, type := _, pos := _, after := _, guard := some (1, true) }) rfl (fun K hK => ?_) AllReadyH.nil
  go_simp
  (with_reducible refine (C2.out _).mono ?_); rintro e v10_8 ⟨rfl, rfl⟩
  refine hK.out _ _ hH (fun hH2 => ?_)
  clear hK K hH; have hH := hH2; clear hH2
  try simp only [Act.put, List.setIfInBounds_toArray, List.set_cons_zero, List.set_cons_succ]
  refine wpAnyH_take (i := 9) (oi := { dst := some 77, op := Op.build 29 #[(0, Operand.tmp 73), (1, Operand.tmp 76)], type := _, pos := _, after := _, guard := some (1, true) }) (v := ?_) rfl (by kernel_rfl) (by kernel_rfl) (by kernel_rfl) (fun _ _ _ h => h) (Or.inl ⟨by rfl, ?_⟩) hH ?_
  rotate_left
  · (intro w hSw; (try dsimp only at hSw); go_simp; (try with_reducible rfl))
  try simp only [Act.put, List.setIfInBounds_toArray, List.set_cons_zero, List.set_cons_succ]
  refine wpAnyH_take (i := 10) (oi := { dst := some 78, op := Op.binOp BinOp.neq 29 (Operand.tmp 70) (Operand.tmp 77) 29, type := _, pos := _, after := _, guard := some (1, true) }) (v := ?_) rfl (by kernel_rfl) (by kernel_rfl) (by kernel_rfl) (fun _ _ _ h => h) (Or.inl ⟨by rfl, ?_⟩) hH ?_
  rotate_left
  · (intro w hSw; (try dsimp only at hSw); go_simp; (try with_reducible rfl))
  try simp only [Act.put, List.setIfInBounds_toArray, List.set_cons_zero, List.set_cons_succ]
  refine wpAnyH_take (i := 11) (oi := { dst := some 79, op := Op.move (Operand.tmp 78), type := _, pos := _, after := _, guard := some (1, true) }) (v := ?_) rfl (by kernel_rfl) (by kernel_rfl) (by kernel_rfl) (fun _ _ _ h => h) (Or.inl ⟨by rfl, ?_⟩) hH ?_
  rotate_left
  · (intro w hSw; (try dsimp only at hSw); go_simp; (try with_reducible rfl))
  try simp only [Act.put, List.setIfInBounds_toArray, List.set_cons_zero, List.set_cons_succ]
  refine wpAnyH_take (i := 12) (oi := { dst := some 80, op := Op.load 29 (Operand.tmp 10), type := _, pos := _, after := _, guard := some (11, false) }) (v := ?_) rfl (by kernel_rfl) (by kernel_rfl) (by kernel_rfl) (fun _ _ _ h => h) (Or.inl ⟨by rfl, ?_⟩) hH ?_
  rotate_left
  · (intro w hSw; (try dsimp only at hSw); go_simp; (try with_reducible rfl))
  try simp only [Act.put, List.setIfInBounds_toArray, List.set_cons_zero, List.set_cons_succ]
  refine wpAnyH_take (i := 13) (oi := { dst := some 81, op := Op.fieldAddr 25 (Operand.tmp 4) 2, type := _, pos := _, after := _, guard := some (11, false) }) (v := ?_) rfl (by kernel_rfl) (by kernel_rfl) (by kernel_rfl) (fun _ _ _ h => h) (Or.inl ⟨by rfl, ?_⟩) hH ?_
  rotate_left
  · (intro w hSw; (try dsimp only at hSw); go_simp; (try with_reducible rfl))
  try simp only [Act.put, List.setIfInBounds_toArray, List.set_cons_zero, List.set_cons_succ]
  refine wpAnyH_take (i := 14) (oi := { dst := some 82, op := Op.load 21 (Operand.tmp 81), type := _, pos := _, after := _, guard := some (11, false) }) (v := ?_) rfl (by kernel_rfl) (by kernel_rfl) (by kernel_rfl) (fun _ _ _ h => h) (Or.inl ⟨by rfl, ?_⟩) hH ?_
  rotate_left
  · (intro w hSw; (try dsimp only at hSw); go_simp; (try with_reducible rfl))
  try simp only [Act.put, List.setIfInBounds_toArray, List.set_cons_zero, List.set_cons_succ]
  refine wpAnyH_take (i := 16) (oi := { dst := some 84, op := Op.fieldAddr 25 (Operand.tmp 4) 3, type := _, pos := _, after := _, guard := some (11, false) }) (v := ?_) rfl (by kernel_rfl) (by kernel_rfl) (by kernel_rfl) (fun _ _ _ h => h) (Or.inl ⟨by rfl, ?_⟩) hH ?_
  rotate_left
  · (intro w hSw; (try dsimp only at hSw); go_simp; (try with_reducible rfl))
  try simp only [Act.put, List.setIfInBounds_toArray, List.set_cons_zero, List.set_cons_succ]
  refine wpAnyH_take (i := 17) (oi := { dst := some 85, op := Op.load 21 (Operand.tmp 84), type := _, pos := _, after := _, guard := some (11, false) }) (v := ?_) rfl (by kernel_rfl) (by kernel_rfl) (by kernel_rfl) (fun _ _ _ h => h) (Or.inl ⟨by rfl, ?_⟩) hH ?_
  rotate_left
  · (intro w hSw; (try dsimp only at hSw); go_simp; (try with_reducible rfl))
  try simp only [Act.put, List.setIfInBounds_toArray, List.set_cons_zero, List.set_cons_succ]
  refine wpAnyH_ready (rs := [15]) (by kernel_rfl) (by simp) ?_
  refine AllReadyH.cons (o := { dst := some 83, op := Op.call { callee := Callee.value (Operand.func 15), args := #[Operand.tmp 82], argTypes := #[21] }, type := _, pos := _, after := _, guard := some (11, false) }) rfl (fun K hK => ?_) AllReadyH.nil
  go_simp
  (with_reducible refine (C3.out _).mono ?_); rintro e v10_15 ⟨rfl, rfl⟩
  refine hK.out _ _ hH (fun hH2 => ?_)
  clear hK K hH; have hH := hH2; clear hH2
  try simp only [Act.put, List.setIfInBounds_toArray, List.set_cons_zero, List.set_cons_succ]
  refine wpAnyH_ready (rs := [18]) (by kernel_rfl) (by simp) ?_
  refine AllReadyH.cons (o := { dst := some 86, op := Op.call { callee := Callee.value (Operand.func 15), args := #[Operand.tmp 85], argTypes := #[21] }, type := _, pos := _, after := _, guard := some (11, false) }) rfl (fun K hK => ?_) AllReadyH.nil
  go_simp
  (with_reducible refine (C4.out _).mono ?_); rintro e v10_18 ⟨rfl, rfl⟩
  refine hK.out _ _ hH (fun hH2 => ?_)
  clear hK K hH; have hH := hH2; clear hH2
  try simp only [Act.put, List.setIfInBounds_toArray, List.set_cons_zero, List.set_cons_succ]
  refine wpAnyH_take (i := 19) (oi := { dst := some 87, op := Op.build 29 #[(0, Operand.tmp 83), (1, Operand.tmp 86)], type := _, pos := _, after := _, guard := some (11, false) }) (v := ?_) rfl (by kernel_rfl) (by kernel_rfl) (by kernel_rfl) (fun _ _ _ h => h) (Or.inl ⟨by rfl, ?_⟩) hH ?_
  rotate_left
  · (intro w hSw; (try dsimp only at hSw); go_simp; (try with_reducible rfl))
  try simp only [Act.put, List.setIfInBounds_toArray, List.set_cons_zero, List.set_cons_succ]
  refine wpAnyH_take (i := 20) (oi := { dst := some 88, op := Op.binOp BinOp.neq 29 (Operand.tmp 80) (Operand.tmp 87) 29, type := _, pos := _, after := _, guard := some (11, false) }) (v := ?_) rfl (by kernel_rfl) (by kernel_rfl) (by kernel_rfl) (fun _ _ _ h => h) (Or.inl ⟨by rfl, ?_⟩) hH ?_
  rotate_left
  · (intro w hSw; (try dsimp only at hSw); go_simp; (try with_reducible rfl))
  try simp only [Act.put, List.setIfInBounds_toArray, List.set_cons_zero, List.set_cons_succ]
  refine wpAnyH_take (i := 21) (oi := { dst := some 89, op := Op.pick (Operand.tmp 79) (Operand.const (Value.bool true)) (Operand.tmp 88), type := _, pos := _, after := _, guard := some (1, true) }) (v := ?_) rfl (by kernel_rfl) (by kernel_rfl) (by kernel_rfl) (fun _ _ _ h => h) (Or.inl ⟨by rfl, ?_⟩) hH ?_
  rotate_left
  · (intro w hSw; (try dsimp only at hSw); go_simp; (try with_reducible rfl))
  try simp only [Act.put, List.setIfInBounds_toArray, List.set_cons_zero, List.set_cons_succ]
  refine wpAnyH_take (i := 22) (oi := { dst := some 90, op := Op.pick (Operand.tmp 69) (Operand.tmp 89) (Operand.const (Value.bool false)), type := _, pos := _, after := _, guard := none }) (v := ?_) rfl (by kernel_rfl) (by kernel_rfl) (by kernel_rfl) (fun _ _ _ h => h) (Or.inl ⟨by rfl, ?_⟩) hH ?_
  rotate_left
  · (intro w hSw; (try dsimp only at hSw); go_simp; (try with_reducible rfl))
  try simp only [Act.put, List.setIfInBounds_toArray, List.set_cons_zero, List.set_cons_succ]
  refine wpAnyH_done (by kernel_rfl) ?_ _
  refine NoPanic.normal ?_
  clear n0 n1 i0 i1 i2 i3 c0 c1 r0 r1 b0 b1 b2 b3 l0 l1 h0 h1 gg
  obtain ⟨n0, n1, i0, i1, i2, i3, c0, c1, r0, r1, b0, b1, b2, b3, l0, l1, h0, h1, gg⟩ := hH
  go_wp2_with fail
  refine wp_region_noPanic ?_
  refine wp_region_held_drew (S := (fun w' => w'.cell? ⟨w.heap.size, 0, none⟩ = some (.int .i32 x) ∧ w'.cell? ⟨w.heap.size, 1, none⟩ = some (.int .i32 y) ∧ w'.cell? ⟨w.heap.size + 1, 0, none⟩ = some (.int .i32 xa) ∧ w'.cell? ⟨w.heap.size + 1, 1, none⟩ = some (.int .i32 ya) ∧ w'.cell? ⟨w.heap.size + 1, 2, none⟩ = some (.int .i32 za) ∧ w'.cell? ⟨w.heap.size + 1, 3, none⟩ = some (.int .i32 ta) ∧ w'.cell? ⟨w.heap.size + 1 + 1, 0, none⟩ = some (.int .i32 cx) ∧ w'.cell? ⟨w.heap.size + 1 + 1, 1, none⟩ = some (.int .i32 cy) ∧ w'.cell? ⟨w2.heap.size, 0, none⟩ = some (.int .i32 p) ∧ w'.cell? ⟨w2.heap.size, 1, none⟩ = some (.int .i32 q) ∧ w'.cell? ⟨v4_16.heap.size, 0, none⟩ = some (.int .i32 xa) ∧ w'.cell? ⟨v4_16.heap.size, 1, none⟩ = some (.int .i32 ya) ∧ w'.cell? ⟨v4_16.heap.size, 2, none⟩ = some (.int .i32 za) ∧ w'.cell? ⟨v4_16.heap.size, 3, none⟩ = some (.int .i32 ta) ∧ w'.cell? ⟨w5.heap.size, 0, none⟩ = some (.int .i32 p0) ∧ w'.cell? ⟨w5.heap.size, 1, none⟩ = some (.int .i32 q0) ∧ w'.cell? ⟨w5.heap.size + 1, 0, none⟩ = some (.int .i32 u0) ∧ w'.cell? ⟨w5.heap.size + 1, 1, none⟩ = some (.int .i32 v0) ∧ Kep w.heap.size w w')) (by kernel_rfl) (⟨by rw [World.cell?_drew]; exact n0, by rw [World.cell?_drew]; exact n1, by rw [World.cell?_drew]; exact i0, by rw [World.cell?_drew]; exact i1, by rw [World.cell?_drew]; exact i2, by rw [World.cell?_drew]; exact i3, by rw [World.cell?_drew]; exact c0, by rw [World.cell?_drew]; exact c1, by rw [World.cell?_drew]; exact r0, by rw [World.cell?_drew]; exact r1, by rw [World.cell?_drew]; exact b0, by rw [World.cell?_drew]; exact b1, by rw [World.cell?_drew]; exact b2, by rw [World.cell?_drew]; exact b3, by rw [World.cell?_drew]; exact l0, by rw [World.cell?_drew]; exact l1, by rw [World.cell?_drew]; exact h0, by rw [World.cell?_drew]; exact h1, kep_drew gg⟩) (fun hH => ?_)
  refine wpAnyH_take (i := 0) (oi := { dst := some 91, op := Op.load 25 (Operand.tmp 4), type := _, pos := _, after := _, guard := none }) (v := ?_) rfl (by kernel_rfl) (by kernel_rfl) (by kernel_rfl) (fun _ _ _ h => h) (Or.inl ⟨by rfl, ?_⟩) hH ?_
  rotate_left
  · (intro w hSw; (try dsimp only at hSw); go_simp; (try with_reducible rfl))
  try simp only [Act.put, List.setIfInBounds_toArray, List.set_cons_zero, List.set_cons_succ]
  refine wpAnyH_ready (rs := [1]) (by kernel_rfl) (by simp) ?_
  refine AllReadyH.cons (o := { dst := some 92, op := Op.call { callee := Callee.value (Operand.func 16), args := #[Operand.tmp 91], argTypes := #[25] }, type := _, pos := _, after := _, guard := none }) rfl (fun K hK => ?_) AllReadyH.nil
  go_simp
  (with_reducible refine (N1.out _).mono ?_); rintro e v12_1 ⟨rfl, g⟩
  refine hK.out _ _ (by (try dsimp only); (go_split_ands; exact ⟨Kep.all g (by assumption), Kep.all g (by assumption), Kep.all g (by assumption), Kep.all g (by assumption), Kep.all g (by assumption), Kep.all g (by assumption), Kep.all g (by assumption), Kep.all g (by assumption), Kep.all g (by assumption), Kep.all g (by assumption), Kep.all g (by assumption), Kep.all g (by assumption), Kep.all g (by assumption), Kep.all g (by assumption), Kep.all g (by assumption), Kep.all g (by assumption), Kep.all g (by assumption), Kep.all g (by assumption), kep_next (by assumption) g⟩)) (fun hH2 => ?_)
  clear hK K hH; have hH := hH2; clear hH2
  try simp only [Act.put, List.setIfInBounds_toArray, List.set_cons_zero, List.set_cons_succ]
  refine wpAnyH_take (i := 2) (oi := { dst := some 93, op := Op.binOp BinOp.gtr 2 (Operand.tmp 92) (Operand.const (Value.int IntKind.i64 4000)) 2, type := _, pos := _, after := _, guard := none }) (v := ?_) rfl (by kernel_rfl) (by kernel_rfl) (by kernel_rfl) (fun _ _ _ h => h) (Or.inl ⟨by rfl, ?_⟩) hH ?_
  rotate_left
  · (intro w hSw; (try dsimp only at hSw); go_simp; (try with_reducible rfl))
  try simp only [Act.put, List.setIfInBounds_toArray, List.set_cons_zero, List.set_cons_succ]
  refine wpAnyH_take (i := 3) (oi := { dst := some 94, op := Op.move (Operand.tmp 93), type := _, pos := _, after := _, guard := none }) (v := ?_) rfl (by kernel_rfl) (by kernel_rfl) (by kernel_rfl) (fun _ _ _ h => h) (Or.inl ⟨by rfl, ?_⟩) hH ?_
  rotate_left
  · (intro w hSw; (try dsimp only at hSw); go_simp; (try with_reducible rfl))
  try simp only [Act.put, List.setIfInBounds_toArray, List.set_cons_zero, List.set_cons_succ]
  refine wpAnyH_take (i := 4) (oi := { dst := some 95, op := Op.load 33 (Operand.tmp 8), type := _, pos := _, after := _, guard := some (3, false) }) (v := undef) rfl (by kernel_rfl) (by kernel_rfl) (by kernel_rfl) (fun _ _ _ h => h) (Or.inr ⟨by rfl, rfl⟩) hH ?_
  try simp only [Act.put, List.setIfInBounds_toArray, List.set_cons_zero, List.set_cons_succ]
  refine wpAnyH_take (i := 5) (oi := { dst := some 96, op := Op.call { callee := Callee.value (Operand.func 18), args := #[Operand.tmp 95], argTypes := #[33] }, type := _, pos := _, after := _, guard := some (3, false) }) (v := undef) rfl (by kernel_rfl) (by kernel_rfl) (by kernel_rfl) (fun _ _ _ h => h) (Or.inr ⟨by rfl, rfl⟩) hH ?_
  try simp only [Act.put, List.setIfInBounds_toArray, List.set_cons_zero, List.set_cons_succ]
  refine wpAnyH_take (i := 6) (oi := { dst := some 97, op := Op.load 25 (Operand.tmp 4), type := _, pos := _, after := _, guard := some (3, false) }) (v := undef) rfl (by kernel_rfl) (by kernel_rfl) (by kernel_rfl) (fun _ _ _ h => h) (Or.inr ⟨by rfl, rfl⟩) hH ?_
  try simp only [Act.put, List.setIfInBounds_toArray, List.set_cons_zero, List.set_cons_succ]
  refine wpAnyH_take (i := 7) (oi := { dst := some 98, op := Op.call { callee := Callee.value (Operand.func 19), args := #[Operand.tmp 97], argTypes := #[25] }, type := _, pos := _, after := _, guard := some (3, false) }) (v := undef) rfl (by kernel_rfl) (by kernel_rfl) (by kernel_rfl) (fun _ _ _ h => h) (Or.inr ⟨by rfl, rfl⟩) hH ?_
  try simp only [Act.put, List.setIfInBounds_toArray, List.set_cons_zero, List.set_cons_succ]
  refine wpAnyH_take (i := 8) (oi := { dst := some 99, op := Op.call { callee := Callee.value (Operand.func 17), args := #[Operand.tmp 96, Operand.tmp 98], argTypes := #[40, 42] }, type := _, pos := _, after := _, guard := some (3, false) }) (v := undef) rfl (by kernel_rfl) (by kernel_rfl) (by kernel_rfl) (fun _ _ _ h => h) (Or.inr ⟨by rfl, rfl⟩) hH ?_
  try simp only [Act.put, List.setIfInBounds_toArray, List.set_cons_zero, List.set_cons_succ]
  refine wpAnyH_take (i := 9) (oi := { dst := some 100, op := Op.pick (Operand.tmp 94) (Operand.const (Value.bool true)) (Operand.tmp 99), type := _, pos := _, after := _, guard := none }) (v := ?_) rfl (by kernel_rfl) (by kernel_rfl) (by kernel_rfl) (fun _ _ _ h => h) (Or.inl ⟨by rfl, ?_⟩) hH ?_
  rotate_left
  · (intro w hSw; (try dsimp only at hSw); go_simp; (try with_reducible rfl))
  try simp only [Act.put, List.setIfInBounds_toArray, List.set_cons_zero, List.set_cons_succ]
  refine wpAnyH_take (i := 10) (oi := { dst := some 6, op := Op.assign (Operand.tmp 100), type := _, pos := _, after := _, guard := none }) (v := ?_) rfl (by kernel_rfl) (by kernel_rfl) (by kernel_rfl) (fun _ _ _ h => h) (Or.inl ⟨by rfl, ?_⟩) hH ?_
  rotate_left
  · (intro w hSw; (try dsimp only at hSw); go_simp; (try with_reducible rfl))
  try simp only [Act.put, List.setIfInBounds_toArray, List.set_cons_zero, List.set_cons_succ]
  refine wpAnyH_done (by kernel_rfl) ?_ _
  refine NoPanic.normal ?_
  clear n0 n1 i0 i1 i2 i3 c0 c1 r0 r1 b0 b1 b2 b3 l0 l1 h0 h1 gg
  obtain ⟨n0, n1, i0, i1, i2, i3, c0, c1, r0, r1, b0, b1, b2, b3, l0, l1, h0, h1, gg⟩ := hH
  go_wp2_with fail
  go_ret
  exact ⟨rfl, gg⟩
set_option maxRecDepth 100000 in
set_option maxHeartbeats 8000000 in
theorem cml_empty (x y cx cy xa ya za ta p q b c : Int) (AW : Hid CAwake) (R1 : Hid (KRe x y p q)) (E1 : Hid (CeO x y p q)) (B1 : Hid (CeB cx cy b)) (B2 : Hid (KBk cx cy b)) (S1 : Hid (CeS xa ya za ta 0 0 0 0 false)) (E3 : Hid (KEm xa ya za ta true)) (N1 : Hid (KCt xa ya za ta c)) (hc : decide (4000 < c) = false) (L : List (Int × Int)) (hL : L.length ≤ 1000000000) (A1 : Hid (CeA xa ya za ta L)) (A2 : Hid (RAl xa ya za ta L)) (w : World) (F0 : Fac w) :
    Calls Tryd.prog 3 #[.agg #[.int .i32 x, .int .i32 y], .agg #[.int .i32 xa, .int .i32 ya, .int .i32 za, .int .i32 ta], .agg #[.int .i32 cx, .int .i32 cy]] w fun e w' => e = .returned (.bool true) ∧ Kep w.heap.size w w' := by
  have v1 := fun w => cell_neq p q w
  have bb : (b != b) = false := by simp
  have v2 := fun w => cell_neq 0 0 w
  have SA := Lib.hid (fun va vb => sam va vb L hL)
  go_enter Tryd.func3, Tryd.ntmps3
  go_wp2_with (first
    | ((with_reducible refine (AW.out _ (F0.kep (by (repeat (first | with_reducible assumption | refine kep_more ?_ _ | refine kep_drew ?_ | exact Kep.refl _ _))))).mono ?_); rintro e w1 ⟨rfl, g1⟩
       have n0 := Kep.all g1 (a := ⟨w.heap.size, 0, none⟩) (v := .int .i32 x) (by (repeat (first | rw [World.cell?_drew] | rw [World.cell?_alloc_past _ _ _ (by first | (simp; done) | (simp; omega))])); rw [World.cell?_alloc_at _ _ _ _ (by simp)]; rfl)
       have n1 := Kep.all g1 (a := ⟨w.heap.size, 1, none⟩) (v := .int .i32 y) (by (repeat (first | rw [World.cell?_drew] | rw [World.cell?_alloc_past _ _ _ (by first | (simp; done) | (simp; omega))])); rw [World.cell?_alloc_at _ _ _ _ (by simp)]; rfl)
       have i0 := Kep.all g1 (a := ⟨w.heap.size + 1, 0, none⟩) (v := .int .i32 xa) (by (repeat (first | rw [World.cell?_drew] | rw [World.cell?_alloc_past _ _ _ (by first | (simp; done) | (simp; omega))])); rw [World.cell?_alloc_at _ _ _ _ (by simp)]; rfl)
       have i1 := Kep.all g1 (a := ⟨w.heap.size + 1, 1, none⟩) (v := .int .i32 ya) (by (repeat (first | rw [World.cell?_drew] | rw [World.cell?_alloc_past _ _ _ (by first | (simp; done) | (simp; omega))])); rw [World.cell?_alloc_at _ _ _ _ (by simp)]; rfl)
       have i2 := Kep.all g1 (a := ⟨w.heap.size + 1, 2, none⟩) (v := .int .i32 za) (by (repeat (first | rw [World.cell?_drew] | rw [World.cell?_alloc_past _ _ _ (by first | (simp; done) | (simp; omega))])); rw [World.cell?_alloc_at _ _ _ _ (by simp)]; rfl)
       have i3 := Kep.all g1 (a := ⟨w.heap.size + 1, 3, none⟩) (v := .int .i32 ta) (by (repeat (first | rw [World.cell?_drew] | rw [World.cell?_alloc_past _ _ _ (by first | (simp; done) | (simp; omega))])); rw [World.cell?_alloc_at _ _ _ _ (by simp)]; rfl)
       have c0 := Kep.all g1 (a := ⟨w.heap.size + 1 + 1, 0, none⟩) (v := .int .i32 cx) (by (repeat (first | rw [World.cell?_drew] | rw [World.cell?_alloc_past _ _ _ (by first | (simp; done) | (simp; omega))])); rw [World.cell?_alloc_at _ _ _ _ (by simp)]; rfl)
       have c1 := Kep.all g1 (a := ⟨w.heap.size + 1 + 1, 1, none⟩) (v := .int .i32 cy) (by (repeat (first | rw [World.cell?_drew] | rw [World.cell?_alloc_past _ _ _ (by first | (simp; done) | (simp; omega))])); rw [World.cell?_alloc_at _ _ _ _ (by simp)]; rfl)
       have gg := kep_next (kep_more (kep_more (kep_more (Kep.refl _ _) _) _) _) g1
       have zn_w1 : w.heap.size < w1.heap.size := World.block_lt_of_cell? _ _ n0
       have zi_w1 : w.heap.size + 1 < w1.heap.size := World.block_lt_of_cell? _ _ i0
       have zc_w1 : w.heap.size + 1 + 1 < w1.heap.size := World.block_lt_of_cell? _ _ c0)
    | ((with_reducible refine (R1.out _).mono ?_); rintro e w2 ⟨rfl, g2⟩
       replace n0 := Kep.all g2 (a := ⟨w.heap.size, 0, none⟩) (v := .int .i32 x) n0
       replace n1 := Kep.all g2 (a := ⟨w.heap.size, 1, none⟩) (v := .int .i32 y) n1
       replace i0 := Kep.all g2 (a := ⟨w.heap.size + 1, 0, none⟩) (v := .int .i32 xa) i0
       replace i1 := Kep.all g2 (a := ⟨w.heap.size + 1, 1, none⟩) (v := .int .i32 ya) i1
       replace i2 := Kep.all g2 (a := ⟨w.heap.size + 1, 2, none⟩) (v := .int .i32 za) i2
       replace i3 := Kep.all g2 (a := ⟨w.heap.size + 1, 3, none⟩) (v := .int .i32 ta) i3
       replace c0 := Kep.all g2 (a := ⟨w.heap.size + 1 + 1, 0, none⟩) (v := .int .i32 cx) c0
       replace c1 := Kep.all g2 (a := ⟨w.heap.size + 1 + 1, 1, none⟩) (v := .int .i32 cy) c1
       replace gg := kep_next gg g2
       have zn_w2 : w.heap.size < w2.heap.size := World.block_lt_of_cell? _ _ n0
       have zi_w2 : w.heap.size + 1 < w2.heap.size := World.block_lt_of_cell? _ _ i0
       have zc_w2 : w.heap.size + 1 + 1 < w2.heap.size := World.block_lt_of_cell? _ _ c0))
  obtain ⟨W, hW⟩ : ∃ W, W = World.alloc w2 (.cells #[.int .i32 p, .int .i32 q] 26) := ⟨_, rfl⟩
  rw [← hW]
  replace n0 : W.cell? ⟨w.heap.size, 0, none⟩ = some (.int .i32 x) := by rw [hW]; exact (Kep.all (kep_more (Kep.refl _ _) _) n0)
  replace n1 : W.cell? ⟨w.heap.size, 1, none⟩ = some (.int .i32 y) := by rw [hW]; exact (Kep.all (kep_more (Kep.refl _ _) _) n1)
  replace i0 : W.cell? ⟨w.heap.size + 1, 0, none⟩ = some (.int .i32 xa) := by rw [hW]; exact (Kep.all (kep_more (Kep.refl _ _) _) i0)
  replace i1 : W.cell? ⟨w.heap.size + 1, 1, none⟩ = some (.int .i32 ya) := by rw [hW]; exact (Kep.all (kep_more (Kep.refl _ _) _) i1)
  replace i2 : W.cell? ⟨w.heap.size + 1, 2, none⟩ = some (.int .i32 za) := by rw [hW]; exact (Kep.all (kep_more (Kep.refl _ _) _) i2)
  replace i3 : W.cell? ⟨w.heap.size + 1, 3, none⟩ = some (.int .i32 ta) := by rw [hW]; exact (Kep.all (kep_more (Kep.refl _ _) _) i3)
  replace c0 : W.cell? ⟨w.heap.size + 1 + 1, 0, none⟩ = some (.int .i32 cx) := by rw [hW]; exact (Kep.all (kep_more (Kep.refl _ _) _) c0)
  replace c1 : W.cell? ⟨w.heap.size + 1 + 1, 1, none⟩ = some (.int .i32 cy) := by rw [hW]; exact (Kep.all (kep_more (Kep.refl _ _) _) c1)
  have r0 : W.cell? ⟨w2.heap.size, 0, none⟩ = some (.int .i32 p) := by rw [hW]; (repeat (first | rw [World.cell?_drew] | rw [World.cell?_alloc_past _ _ _ (by first | (simp; done) | (simp; omega))])); rw [World.cell?_alloc_at _ _ _ _ (by simp)]; rfl
  have r1 : W.cell? ⟨w2.heap.size, 1, none⟩ = some (.int .i32 q) := by rw [hW]; (repeat (first | rw [World.cell?_drew] | rw [World.cell?_alloc_past _ _ _ (by first | (simp; done) | (simp; omega))])); rw [World.cell?_alloc_at _ _ _ _ (by simp)]; rfl
  replace gg : Kep w.heap.size w W := by rw [hW]; exact kep_more gg _
  clear hW
  refine wp_region_noPanic ?_
  refine wp_region_held_drew (S := (fun w' => w'.cell? ⟨w.heap.size, 0, none⟩ = some (.int .i32 x) ∧ w'.cell? ⟨w.heap.size, 1, none⟩ = some (.int .i32 y) ∧ w'.cell? ⟨w.heap.size + 1, 0, none⟩ = some (.int .i32 xa) ∧ w'.cell? ⟨w.heap.size + 1, 1, none⟩ = some (.int .i32 ya) ∧ w'.cell? ⟨w.heap.size + 1, 2, none⟩ = some (.int .i32 za) ∧ w'.cell? ⟨w.heap.size + 1, 3, none⟩ = some (.int .i32 ta) ∧ w'.cell? ⟨w.heap.size + 1 + 1, 0, none⟩ = some (.int .i32 cx) ∧ w'.cell? ⟨w.heap.size + 1 + 1, 1, none⟩ = some (.int .i32 cy) ∧ w'.cell? ⟨w2.heap.size, 0, none⟩ = some (.int .i32 p) ∧ w'.cell? ⟨w2.heap.size, 1, none⟩ = some (.int .i32 q) ∧ Kep w.heap.size w w')) (by kernel_rfl) (⟨by rw [World.cell?_drew]; exact n0, by rw [World.cell?_drew]; exact n1, by rw [World.cell?_drew]; exact i0, by rw [World.cell?_drew]; exact i1, by rw [World.cell?_drew]; exact i2, by rw [World.cell?_drew]; exact i3, by rw [World.cell?_drew]; exact c0, by rw [World.cell?_drew]; exact c1, by rw [World.cell?_drew]; exact r0, by rw [World.cell?_drew]; exact r1, kep_drew gg⟩) (fun hH => ?_)
  refine wpAnyH_take (i := 0) (oi := { dst := some 16, op := Op.load 23 (Operand.tmp 3), type := _, pos := _, after := _, guard := none }) (v := ?_) rfl (by kernel_rfl) (by kernel_rfl) (by kernel_rfl) (fun _ _ _ h => h) (Or.inl ⟨by rfl, ?_⟩) hH ?_
  rotate_left
  · (intro w hSw; (try dsimp only at hSw); go_simp; (try with_reducible rfl))
  try simp only [Act.put, List.setIfInBounds_toArray, List.set_cons_zero, List.set_cons_succ]
  refine wpAnyH_take (i := 2) (oi := { dst := some 18, op := Op.fieldAddr 26 (Operand.tmp 7) 0, type := _, pos := _, after := _, guard := none }) (v := ?_) rfl (by kernel_rfl) (by kernel_rfl) (by kernel_rfl) (fun _ _ _ h => h) (Or.inl ⟨by rfl, ?_⟩) hH ?_
  rotate_left
  · (intro w hSw; (try dsimp only at hSw); go_simp; (try with_reducible rfl))
  try simp only [Act.put, List.setIfInBounds_toArray, List.set_cons_zero, List.set_cons_succ]
  refine wpAnyH_take (i := 3) (oi := { dst := some 19, op := Op.load 21 (Operand.tmp 18), type := _, pos := _, after := _, guard := none }) (v := ?_) rfl (by kernel_rfl) (by kernel_rfl) (by kernel_rfl) (fun _ _ _ h => h) (Or.inl ⟨by rfl, ?_⟩) hH ?_
  rotate_left
  · (intro w hSw; (try dsimp only at hSw); go_simp; (try with_reducible rfl))
  try simp only [Act.put, List.setIfInBounds_toArray, List.set_cons_zero, List.set_cons_succ]
  refine wpAnyH_take (i := 4) (oi := { dst := some 20, op := Op.fieldAddr 26 (Operand.tmp 7) 1, type := _, pos := _, after := _, guard := none }) (v := ?_) rfl (by kernel_rfl) (by kernel_rfl) (by kernel_rfl) (fun _ _ _ h => h) (Or.inl ⟨by rfl, ?_⟩) hH ?_
  rotate_left
  · (intro w hSw; (try dsimp only at hSw); go_simp; (try with_reducible rfl))
  try simp only [Act.put, List.setIfInBounds_toArray, List.set_cons_zero, List.set_cons_succ]
  refine wpAnyH_take (i := 5) (oi := { dst := some 21, op := Op.load 21 (Operand.tmp 20), type := _, pos := _, after := _, guard := none }) (v := ?_) rfl (by kernel_rfl) (by kernel_rfl) (by kernel_rfl) (fun _ _ _ h => h) (Or.inl ⟨by rfl, ?_⟩) hH ?_
  rotate_left
  · (intro w hSw; (try dsimp only at hSw); go_simp; (try with_reducible rfl))
  try simp only [Act.put, List.setIfInBounds_toArray, List.set_cons_zero, List.set_cons_succ]
  refine wpAnyH_take (i := 6) (oi := { dst := some 22, op := Op.build 29 #[(0, Operand.tmp 19), (1, Operand.tmp 21)], type := _, pos := _, after := _, guard := none }) (v := ?_) rfl (by kernel_rfl) (by kernel_rfl) (by kernel_rfl) (fun _ _ _ h => h) (Or.inl ⟨by rfl, ?_⟩) hH ?_
  rotate_left
  · (intro w hSw; (try dsimp only at hSw); go_simp; (try with_reducible rfl))
  try simp only [Act.put, List.setIfInBounds_toArray, List.set_cons_zero, List.set_cons_succ]
  refine wpAnyH_ready (rs := [1]) (by kernel_rfl) (by simp) ?_
  refine AllReadyH.cons (o := { dst := some 17, op := Op.call { callee := Callee.value (Operand.func 10), args := #[Operand.tmp 16], argTypes := #[23] }, type := _, pos := _, after := _, guard := none }) rfl (fun K hK => ?_) AllReadyH.nil
  go_simp
  (with_reducible refine (E1.out _).mono ?_); rintro e v4_1 ⟨rfl, g⟩
  refine hK.out _ _ (by (try dsimp only); (go_split_ands; exact ⟨Kep.all g (by assumption), Kep.all g (by assumption), Kep.all g (by assumption), Kep.all g (by assumption), Kep.all g (by assumption), Kep.all g (by assumption), Kep.all g (by assumption), Kep.all g (by assumption), Kep.all g (by assumption), Kep.all g (by assumption), kep_next (by assumption) g⟩)) (fun hH2 => ?_)
  clear hK K hH; have hH := hH2; clear hH2
  try simp only [Act.put, List.setIfInBounds_toArray, List.set_cons_zero, List.set_cons_succ]
  refine wpAnyH_take (i := 7) (oi := { dst := some 23, op := Op.binOp BinOp.neq 29 (Operand.tmp 17) (Operand.tmp 22) 29, type := _, pos := _, after := _, guard := none }) (v := ?_) rfl (by kernel_rfl) (by kernel_rfl) (by kernel_rfl) (fun _ _ _ h => h) (Or.inl ⟨by rfl, ?_⟩) hH ?_
  rotate_left
  · (intro w hSw; (try dsimp only at hSw); go_simp; (try with_reducible rfl))
  try simp only [Act.put, List.setIfInBounds_toArray, List.set_cons_zero, List.set_cons_succ]
  refine wpAnyH_take (i := 8) (oi := { dst := some 24, op := Op.move (Operand.tmp 23), type := _, pos := _, after := _, guard := none }) (v := ?_) rfl (by kernel_rfl) (by kernel_rfl) (by kernel_rfl) (fun _ _ _ h => h) (Or.inl ⟨by rfl, ?_⟩) hH ?_
  rotate_left
  · (intro w hSw; (try dsimp only at hSw); go_simp; (try with_reducible rfl))
  try simp only [Act.put, List.setIfInBounds_toArray, List.set_cons_zero, List.set_cons_succ]
  refine wpAnyH_take (i := 9) (oi := { dst := some 25, op := Op.fieldAddr 26 (Operand.tmp 5) 0, type := _, pos := _, after := _, guard := some (8, false) }) (v := ?_) rfl (by kernel_rfl) (by kernel_rfl) (by kernel_rfl) (fun _ _ _ h => h) (Or.inl ⟨by rfl, ?_⟩) hH ?_
  rotate_left
  · (intro w hSw; (try dsimp only at hSw); go_simp; (try with_reducible rfl))
  try simp only [Act.put, List.setIfInBounds_toArray, List.set_cons_zero, List.set_cons_succ]
  refine wpAnyH_take (i := 10) (oi := { dst := some 26, op := Op.load 21 (Operand.tmp 25), type := _, pos := _, after := _, guard := some (8, false) }) (v := ?_) rfl (by kernel_rfl) (by kernel_rfl) (by kernel_rfl) (fun _ _ _ h => h) (Or.inl ⟨by rfl, ?_⟩) hH ?_
  rotate_left
  · (intro w hSw; (try dsimp only at hSw); go_simp; (try with_reducible rfl))
  try simp only [Act.put, List.setIfInBounds_toArray, List.set_cons_zero, List.set_cons_succ]
  refine wpAnyH_take (i := 11) (oi := { dst := some 27, op := Op.fieldAddr 26 (Operand.tmp 5) 1, type := _, pos := _, after := _, guard := some (8, false) }) (v := ?_) rfl (by kernel_rfl) (by kernel_rfl) (by kernel_rfl) (fun _ _ _ h => h) (Or.inl ⟨by rfl, ?_⟩) hH ?_
  rotate_left
  · (intro w hSw; (try dsimp only at hSw); go_simp; (try with_reducible rfl))
  try simp only [Act.put, List.setIfInBounds_toArray, List.set_cons_zero, List.set_cons_succ]
  refine wpAnyH_take (i := 12) (oi := { dst := some 28, op := Op.load 21 (Operand.tmp 27), type := _, pos := _, after := _, guard := some (8, false) }) (v := ?_) rfl (by kernel_rfl) (by kernel_rfl) (by kernel_rfl) (fun _ _ _ h => h) (Or.inl ⟨by rfl, ?_⟩) hH ?_
  rotate_left
  · (intro w hSw; (try dsimp only at hSw); go_simp; (try with_reducible rfl))
  try simp only [Act.put, List.setIfInBounds_toArray, List.set_cons_zero, List.set_cons_succ]
  refine wpAnyH_take (i := 13) (oi := { dst := some 29, op := Op.build 29 #[(0, Operand.tmp 26), (1, Operand.tmp 28)], type := _, pos := _, after := _, guard := some (8, false) }) (v := ?_) rfl (by kernel_rfl) (by kernel_rfl) (by kernel_rfl) (fun _ _ _ h => h) (Or.inl ⟨by rfl, ?_⟩) hH ?_
  rotate_left
  · (intro w hSw; (try dsimp only at hSw); go_simp; (try with_reducible rfl))
  try simp only [Act.put, List.setIfInBounds_toArray, List.set_cons_zero, List.set_cons_succ]
  refine wpAnyH_take (i := 15) (oi := { dst := some 31, op := Op.load 26 (Operand.tmp 5), type := _, pos := _, after := _, guard := some (8, false) }) (v := ?_) rfl (by kernel_rfl) (by kernel_rfl) (by kernel_rfl) (fun _ _ _ h => h) (Or.inl ⟨by rfl, ?_⟩) hH ?_
  rotate_left
  · (intro w hSw; (try dsimp only at hSw); go_simp; (try with_reducible rfl))
  try simp only [Act.put, List.setIfInBounds_toArray, List.set_cons_zero, List.set_cons_succ]
  refine wpAnyH_ready (rs := [14]) (by kernel_rfl) (by simp) ?_
  refine AllReadyH.cons (o := { dst := some 30, op := Op.call { callee := Callee.value (Operand.func 11), args := #[Operand.tmp 29], argTypes := #[29] }, type := _, pos := _, after := _, guard := some (8, false) }) rfl (fun K hK => ?_) AllReadyH.nil
  go_simp
  (with_reducible refine (B1.out _ (F0.kep hH.2.2.2.2.2.2.2.2.2.2)).mono ?_); rintro e v4_14 ⟨rfl, g⟩
  refine hK.out _ _ (by (try dsimp only); (go_split_ands; exact ⟨Kep.all g (by assumption), Kep.all g (by assumption), Kep.all g (by assumption), Kep.all g (by assumption), Kep.all g (by assumption), Kep.all g (by assumption), Kep.all g (by assumption), Kep.all g (by assumption), Kep.all g (by assumption), Kep.all g (by assumption), kep_next (by assumption) g⟩)) (fun hH2 => ?_)
  clear hK K hH; have hH := hH2; clear hH2
  try simp only [Act.put, List.setIfInBounds_toArray, List.set_cons_zero, List.set_cons_succ]
  refine wpAnyH_ready (rs := [16]) (by kernel_rfl) (by simp) ?_
  refine AllReadyH.cons (o := { dst := some 32, op := Op.call { callee := Callee.value (Operand.func 12), args := #[Operand.tmp 31], argTypes := #[26] }, type := _, pos := _, after := _, guard := some (8, false) }) rfl (fun K hK => ?_) AllReadyH.nil
  go_simp
  (with_reducible refine (B2.out _).mono ?_); rintro e v4_16 ⟨rfl, g⟩
  refine hK.out _ _ (by (try dsimp only); (go_split_ands; exact ⟨Kep.all g (by assumption), Kep.all g (by assumption), Kep.all g (by assumption), Kep.all g (by assumption), Kep.all g (by assumption), Kep.all g (by assumption), Kep.all g (by assumption), Kep.all g (by assumption), Kep.all g (by assumption), Kep.all g (by assumption), kep_next (by assumption) g⟩)) (fun hH2 => ?_)
  clear hK K hH; have hH := hH2; clear hH2
  try simp only [Act.put, List.setIfInBounds_toArray, List.set_cons_zero, List.set_cons_succ]
  refine wpAnyH_take (i := 17) (oi := { dst := some 33, op := Op.binOp BinOp.neq 3 (Operand.tmp 30) (Operand.tmp 32) 3, type := _, pos := _, after := _, guard := some (8, false) }) (v := ?_) rfl (by kernel_rfl) (by kernel_rfl) (by kernel_rfl) (fun _ _ _ h => h) (Or.inl ⟨by rfl, ?_⟩) hH ?_
  rotate_left
  · (intro w hSw; (try dsimp only at hSw); go_simp; (try with_reducible rfl))
  try simp only [Act.put, List.setIfInBounds_toArray, List.set_cons_zero, List.set_cons_succ]
  refine wpAnyH_take (i := 18) (oi := { dst := some 34, op := Op.pick (Operand.tmp 24) (Operand.const (Value.bool true)) (Operand.tmp 33), type := _, pos := _, after := _, guard := none }) (v := ?_) rfl (by kernel_rfl) (by kernel_rfl) (by kernel_rfl) (fun _ _ _ h => h) (Or.inl ⟨by rfl, ?_⟩) hH ?_
  rotate_left
  · (intro w hSw; (try dsimp only at hSw); go_simp; (try with_reducible rfl))
  try simp only [Act.put, List.setIfInBounds_toArray, List.set_cons_zero, List.set_cons_succ]
  refine wpAnyH_done (by kernel_rfl) ?_ _
  refine NoPanic.normal ?_
  clear n0 n1 i0 i1 i2 i3 c0 c1 r0 r1 gg
  obtain ⟨n0, n1, i0, i1, i2, i3, c0, c1, r0, r1, gg⟩ := hH
  go_wp2_with (first
    | ((with_reducible refine (S1.out _).mono ?_); rintro e w5 ⟨rfl, g5⟩
       replace n0 := Kep.all g5 (a := ⟨w.heap.size, 0, none⟩) (v := .int .i32 x) (Kep.all (kep_more (Kep.refl _ _) _) n0)
       replace n1 := Kep.all g5 (a := ⟨w.heap.size, 1, none⟩) (v := .int .i32 y) (Kep.all (kep_more (Kep.refl _ _) _) n1)
       replace i0 := Kep.all g5 (a := ⟨w.heap.size + 1, 0, none⟩) (v := .int .i32 xa) (Kep.all (kep_more (Kep.refl _ _) _) i0)
       replace i1 := Kep.all g5 (a := ⟨w.heap.size + 1, 1, none⟩) (v := .int .i32 ya) (Kep.all (kep_more (Kep.refl _ _) _) i1)
       replace i2 := Kep.all g5 (a := ⟨w.heap.size + 1, 2, none⟩) (v := .int .i32 za) (Kep.all (kep_more (Kep.refl _ _) _) i2)
       replace i3 := Kep.all g5 (a := ⟨w.heap.size + 1, 3, none⟩) (v := .int .i32 ta) (Kep.all (kep_more (Kep.refl _ _) _) i3)
       replace c0 := Kep.all g5 (a := ⟨w.heap.size + 1 + 1, 0, none⟩) (v := .int .i32 cx) (Kep.all (kep_more (Kep.refl _ _) _) c0)
       replace c1 := Kep.all g5 (a := ⟨w.heap.size + 1 + 1, 1, none⟩) (v := .int .i32 cy) (Kep.all (kep_more (Kep.refl _ _) _) c1)
       replace r0 := Kep.all g5 (a := ⟨w2.heap.size, 0, none⟩) (v := .int .i32 p) (Kep.all (kep_more (Kep.refl _ _) _) r0)
       replace r1 := Kep.all g5 (a := ⟨w2.heap.size, 1, none⟩) (v := .int .i32 q) (Kep.all (kep_more (Kep.refl _ _) _) r1)
       have b0 := Kep.all g5 (a := ⟨v4_16.heap.size, 0, none⟩) (v := .int .i32 xa) (by (repeat (first | rw [World.cell?_drew] | rw [World.cell?_alloc_past _ _ _ (by first | (simp; done) | (simp; omega))])); rw [World.cell?_alloc_at _ _ _ _ (by simp)]; rfl)
       have b1 := Kep.all g5 (a := ⟨v4_16.heap.size, 1, none⟩) (v := .int .i32 ya) (by (repeat (first | rw [World.cell?_drew] | rw [World.cell?_alloc_past _ _ _ (by first | (simp; done) | (simp; omega))])); rw [World.cell?_alloc_at _ _ _ _ (by simp)]; rfl)
       have b2 := Kep.all g5 (a := ⟨v4_16.heap.size, 2, none⟩) (v := .int .i32 za) (by (repeat (first | rw [World.cell?_drew] | rw [World.cell?_alloc_past _ _ _ (by first | (simp; done) | (simp; omega))])); rw [World.cell?_alloc_at _ _ _ _ (by simp)]; rfl)
       have b3 := Kep.all g5 (a := ⟨v4_16.heap.size, 3, none⟩) (v := .int .i32 ta) (by (repeat (first | rw [World.cell?_drew] | rw [World.cell?_alloc_past _ _ _ (by first | (simp; done) | (simp; omega))])); rw [World.cell?_alloc_at _ _ _ _ (by simp)]; rfl)
       replace gg := kep_next (kep_more gg _) g5
       have zn_w5 : w.heap.size < w5.heap.size := World.block_lt_of_cell? _ _ n0
       have zi_w5 : w.heap.size + 1 < w5.heap.size := World.block_lt_of_cell? _ _ i0
       have zc_w5 : w.heap.size + 1 + 1 < w5.heap.size := World.block_lt_of_cell? _ _ c0
       have zr_w5 : w2.heap.size < w5.heap.size := World.block_lt_of_cell? _ _ r0
       have zb_w5 : v4_16.heap.size < w5.heap.size := World.block_lt_of_cell? _ _ b0)
    | ((with_reducible refine (E3.out _).mono ?_); rintro e w6 ⟨rfl, g6⟩
       replace n0 := Kep.all g6 (a := ⟨w.heap.size, 0, none⟩) (v := .int .i32 x) (Kep.all (kep_more (kep_more (Kep.refl _ _) _) _) n0)
       replace n1 := Kep.all g6 (a := ⟨w.heap.size, 1, none⟩) (v := .int .i32 y) (Kep.all (kep_more (kep_more (Kep.refl _ _) _) _) n1)
       replace i0 := Kep.all g6 (a := ⟨w.heap.size + 1, 0, none⟩) (v := .int .i32 xa) (Kep.all (kep_more (kep_more (Kep.refl _ _) _) _) i0)
       replace i1 := Kep.all g6 (a := ⟨w.heap.size + 1, 1, none⟩) (v := .int .i32 ya) (Kep.all (kep_more (kep_more (Kep.refl _ _) _) _) i1)
       replace i2 := Kep.all g6 (a := ⟨w.heap.size + 1, 2, none⟩) (v := .int .i32 za) (Kep.all (kep_more (kep_more (Kep.refl _ _) _) _) i2)
       replace i3 := Kep.all g6 (a := ⟨w.heap.size + 1, 3, none⟩) (v := .int .i32 ta) (Kep.all (kep_more (kep_more (Kep.refl _ _) _) _) i3)
       replace c0 := Kep.all g6 (a := ⟨w.heap.size + 1 + 1, 0, none⟩) (v := .int .i32 cx) (Kep.all (kep_more (kep_more (Kep.refl _ _) _) _) c0)
       replace c1 := Kep.all g6 (a := ⟨w.heap.size + 1 + 1, 1, none⟩) (v := .int .i32 cy) (Kep.all (kep_more (kep_more (Kep.refl _ _) _) _) c1)
       replace r0 := Kep.all g6 (a := ⟨w2.heap.size, 0, none⟩) (v := .int .i32 p) (Kep.all (kep_more (kep_more (Kep.refl _ _) _) _) r0)
       replace r1 := Kep.all g6 (a := ⟨w2.heap.size, 1, none⟩) (v := .int .i32 q) (Kep.all (kep_more (kep_more (Kep.refl _ _) _) _) r1)
       replace b0 := Kep.all g6 (a := ⟨v4_16.heap.size, 0, none⟩) (v := .int .i32 xa) (Kep.all (kep_more (kep_more (Kep.refl _ _) _) _) b0)
       replace b1 := Kep.all g6 (a := ⟨v4_16.heap.size, 1, none⟩) (v := .int .i32 ya) (Kep.all (kep_more (kep_more (Kep.refl _ _) _) _) b1)
       replace b2 := Kep.all g6 (a := ⟨v4_16.heap.size, 2, none⟩) (v := .int .i32 za) (Kep.all (kep_more (kep_more (Kep.refl _ _) _) _) b2)
       replace b3 := Kep.all g6 (a := ⟨v4_16.heap.size, 3, none⟩) (v := .int .i32 ta) (Kep.all (kep_more (kep_more (Kep.refl _ _) _) _) b3)
       have l0 := Kep.all g6 (a := ⟨w5.heap.size, 0, none⟩) (v := .int .i32 0) (by (repeat (first | rw [World.cell?_drew] | rw [World.cell?_alloc_past _ _ _ (by first | (simp; done) | (simp; omega))])); rw [World.cell?_alloc_at _ _ _ _ (by simp)]; rfl)
       have l1 := Kep.all g6 (a := ⟨w5.heap.size, 1, none⟩) (v := .int .i32 0) (by (repeat (first | rw [World.cell?_drew] | rw [World.cell?_alloc_past _ _ _ (by first | (simp; done) | (simp; omega))])); rw [World.cell?_alloc_at _ _ _ _ (by simp)]; rfl)
       have h0 := Kep.all g6 (a := ⟨w5.heap.size + 1, 0, none⟩) (v := .int .i32 0) (by (repeat (first | rw [World.cell?_drew] | rw [World.cell?_alloc_past _ _ _ (by first | (simp; done) | (simp; omega))])); rw [World.cell?_alloc_at _ _ _ _ (by simp)]; rfl)
       have h1 := Kep.all g6 (a := ⟨w5.heap.size + 1, 1, none⟩) (v := .int .i32 0) (by (repeat (first | rw [World.cell?_drew] | rw [World.cell?_alloc_past _ _ _ (by first | (simp; done) | (simp; omega))])); rw [World.cell?_alloc_at _ _ _ _ (by simp)]; rfl)
       replace gg := kep_next (kep_more (kep_more gg _) _) g6
       have zn_w6 : w.heap.size < w6.heap.size := World.block_lt_of_cell? _ _ n0
       have zi_w6 : w.heap.size + 1 < w6.heap.size := World.block_lt_of_cell? _ _ i0
       have zc_w6 : w.heap.size + 1 + 1 < w6.heap.size := World.block_lt_of_cell? _ _ c0
       have zr_w6 : w2.heap.size < w6.heap.size := World.block_lt_of_cell? _ _ r0
       have zb_w6 : v4_16.heap.size < w6.heap.size := World.block_lt_of_cell? _ _ b0
       have zl_w6 : w5.heap.size < w6.heap.size := World.block_lt_of_cell? _ _ l0
       have zh_w6 : w5.heap.size + 1 < w6.heap.size := World.block_lt_of_cell? _ _ h0))
  refine wp_region_noPanic ?_
  refine wp_region_held_drew (S := (fun w' => w'.cell? ⟨w.heap.size, 0, none⟩ = some (.int .i32 x) ∧ w'.cell? ⟨w.heap.size, 1, none⟩ = some (.int .i32 y) ∧ w'.cell? ⟨w.heap.size + 1, 0, none⟩ = some (.int .i32 xa) ∧ w'.cell? ⟨w.heap.size + 1, 1, none⟩ = some (.int .i32 ya) ∧ w'.cell? ⟨w.heap.size + 1, 2, none⟩ = some (.int .i32 za) ∧ w'.cell? ⟨w.heap.size + 1, 3, none⟩ = some (.int .i32 ta) ∧ w'.cell? ⟨w.heap.size + 1 + 1, 0, none⟩ = some (.int .i32 cx) ∧ w'.cell? ⟨w.heap.size + 1 + 1, 1, none⟩ = some (.int .i32 cy) ∧ w'.cell? ⟨w2.heap.size, 0, none⟩ = some (.int .i32 p) ∧ w'.cell? ⟨w2.heap.size, 1, none⟩ = some (.int .i32 q) ∧ w'.cell? ⟨v4_16.heap.size, 0, none⟩ = some (.int .i32 xa) ∧ w'.cell? ⟨v4_16.heap.size, 1, none⟩ = some (.int .i32 ya) ∧ w'.cell? ⟨v4_16.heap.size, 2, none⟩ = some (.int .i32 za) ∧ w'.cell? ⟨v4_16.heap.size, 3, none⟩ = some (.int .i32 ta) ∧ w'.cell? ⟨w5.heap.size, 0, none⟩ = some (.int .i32 0) ∧ w'.cell? ⟨w5.heap.size, 1, none⟩ = some (.int .i32 0) ∧ w'.cell? ⟨w5.heap.size + 1, 0, none⟩ = some (.int .i32 0) ∧ w'.cell? ⟨w5.heap.size + 1, 1, none⟩ = some (.int .i32 0) ∧ Kep w.heap.size w w')) (by kernel_rfl) (⟨by rw [World.cell?_drew]; exact n0, by rw [World.cell?_drew]; exact n1, by rw [World.cell?_drew]; exact i0, by rw [World.cell?_drew]; exact i1, by rw [World.cell?_drew]; exact i2, by rw [World.cell?_drew]; exact i3, by rw [World.cell?_drew]; exact c0, by rw [World.cell?_drew]; exact c1, by rw [World.cell?_drew]; exact r0, by rw [World.cell?_drew]; exact r1, by rw [World.cell?_drew]; exact b0, by rw [World.cell?_drew]; exact b1, by rw [World.cell?_drew]; exact b2, by rw [World.cell?_drew]; exact b3, by rw [World.cell?_drew]; exact l0, by rw [World.cell?_drew]; exact l1, by rw [World.cell?_drew]; exact h0, by rw [World.cell?_drew]; exact h1, kep_drew gg⟩) (fun hH => ?_)
  refine wpAnyH_take (i := 0) (oi := { dst := some 68, op := Op.move (Operand.tmp 11), type := _, pos := _, after := _, guard := none }) (v := ?_) rfl (by kernel_rfl) (by kernel_rfl) (by kernel_rfl) (fun _ _ _ h => h) (Or.inl ⟨by rfl, ?_⟩) hH ?_
  rotate_left
  · (intro w hSw; (try dsimp only at hSw); go_simp; (try with_reducible rfl))
  try simp only [Act.put, List.setIfInBounds_toArray, List.set_cons_zero, List.set_cons_succ]
  refine wpAnyH_take (i := 1) (oi := { dst := some 69, op := Op.move (Operand.tmp 68), type := _, pos := _, after := _, guard := none }) (v := ?_) rfl (by kernel_rfl) (by kernel_rfl) (by kernel_rfl) (fun _ _ _ h => h) (Or.inl ⟨by rfl, ?_⟩) hH ?_
  rotate_left
  · (intro w hSw; (try dsimp only at hSw); go_simp; (try with_reducible rfl))
  try simp only [Act.put, List.setIfInBounds_toArray, List.set_cons_zero, List.set_cons_succ]
  refine wpAnyH_take (i := 2) (oi := { dst := some 70, op := Op.load 29 (Operand.tmp 9), type := _, pos := _, after := _, guard := some (1, true) }) (v := undef) rfl (by kernel_rfl) (by kernel_rfl) (by kernel_rfl) (fun _ _ _ h => h) (Or.inr ⟨by rfl, rfl⟩) hH ?_
  try simp only [Act.put, List.setIfInBounds_toArray, List.set_cons_zero, List.set_cons_succ]
  refine wpAnyH_take (i := 3) (oi := { dst := some 71, op := Op.fieldAddr 25 (Operand.tmp 4) 0, type := _, pos := _, after := _, guard := some (1, true) }) (v := undef) rfl (by kernel_rfl) (by kernel_rfl) (by kernel_rfl) (fun _ _ _ h => h) (Or.inr ⟨by rfl, rfl⟩) hH ?_
  try simp only [Act.put, List.setIfInBounds_toArray, List.set_cons_zero, List.set_cons_succ]
  refine wpAnyH_take (i := 4) (oi := { dst := some 72, op := Op.load 21 (Operand.tmp 71), type := _, pos := _, after := _, guard := some (1, true) }) (v := undef) rfl (by kernel_rfl) (by kernel_rfl) (by kernel_rfl) (fun _ _ _ h => h) (Or.inr ⟨by rfl, rfl⟩) hH ?_
  try simp only [Act.put, List.setIfInBounds_toArray, List.set_cons_zero, List.set_cons_succ]
  refine wpAnyH_take (i := 5) (oi := { dst := some 73, op := Op.call { callee := Callee.value (Operand.func 15), args := #[Operand.tmp 72], argTypes := #[21] }, type := _, pos := _, after := _, guard := some (1, true) }) (v := undef) rfl (by kernel_rfl) (by kernel_rfl) (by kernel_rfl) (fun _ _ _ h => h) (Or.inr ⟨by rfl, rfl⟩) hH ?_
  try simp only [Act.put, List.setIfInBounds_toArray, List.set_cons_zero, List.set_cons_succ]
  refine wpAnyH_take (i := 6) (oi := { dst := some 74, op := Op.fieldAddr 25 (Operand.tmp 4) 1, type := _, pos := _, after := _, guard := some (1, true) }) (v := undef) rfl (by kernel_rfl) (by kernel_rfl) (by kernel_rfl) (fun _ _ _ h => h) (Or.inr ⟨by rfl, rfl⟩) hH ?_
  try simp only [Act.put, List.setIfInBounds_toArray, List.set_cons_zero, List.set_cons_succ]
  refine wpAnyH_take (i := 7) (oi := { dst := some 75, op := Op.load 21 (Operand.tmp 74), type := _, pos := _, after := _, guard := some (1, true) }) (v := undef) rfl (by kernel_rfl) (by kernel_rfl) (by kernel_rfl) (fun _ _ _ h => h) (Or.inr ⟨by rfl, rfl⟩) hH ?_
  try simp only [Act.put, List.setIfInBounds_toArray, List.set_cons_zero, List.set_cons_succ]
  refine wpAnyH_take (i := 8) (oi := { dst := some 76, op := Op.call { callee := Callee.value (Operand.func 15), args := #[Operand.tmp 75], argTypes := #[21] }, type := _, pos := _, after := _, guard := some (1, true) }) (v := undef) rfl (by kernel_rfl) (by kernel_rfl) (by kernel_rfl) (fun _ _ _ h => h) (Or.inr ⟨by rfl, rfl⟩) hH ?_
  try simp only [Act.put, List.setIfInBounds_toArray, List.set_cons_zero, List.set_cons_succ]
  refine wpAnyH_take (i := 9) (oi := { dst := some 77, op := Op.build 29 #[(0, Operand.tmp 73), (1, Operand.tmp 76)], type := _, pos := _, after := _, guard := some (1, true) }) (v := undef) rfl (by kernel_rfl) (by kernel_rfl) (by kernel_rfl) (fun _ _ _ h => h) (Or.inr ⟨by rfl, rfl⟩) hH ?_
  try simp only [Act.put, List.setIfInBounds_toArray, List.set_cons_zero, List.set_cons_succ]
  refine wpAnyH_take (i := 10) (oi := { dst := some 78, op := Op.binOp BinOp.neq 29 (Operand.tmp 70) (Operand.tmp 77) 29, type := _, pos := _, after := _, guard := some (1, true) }) (v := undef) rfl (by kernel_rfl) (by kernel_rfl) (by kernel_rfl) (fun _ _ _ h => h) (Or.inr ⟨by rfl, rfl⟩) hH ?_
  try simp only [Act.put, List.setIfInBounds_toArray, List.set_cons_zero, List.set_cons_succ]
  refine wpAnyH_take (i := 11) (oi := { dst := some 79, op := Op.move (Operand.tmp 78), type := _, pos := _, after := _, guard := some (1, true) }) (v := undef) rfl (by kernel_rfl) (by kernel_rfl) (by kernel_rfl) (fun _ _ _ h => h) (Or.inr ⟨by rfl, rfl⟩) hH ?_
  try simp only [Act.put, List.setIfInBounds_toArray, List.set_cons_zero, List.set_cons_succ]
  refine wpAnyH_take (i := 12) (oi := { dst := some 80, op := Op.load 29 (Operand.tmp 10), type := _, pos := _, after := _, guard := some (11, false) }) (v := undef) rfl (by kernel_rfl) (by kernel_rfl) (by kernel_rfl) (fun _ _ _ h => h) (Or.inr ⟨by rfl, rfl⟩) hH ?_
  try simp only [Act.put, List.setIfInBounds_toArray, List.set_cons_zero, List.set_cons_succ]
  refine wpAnyH_take (i := 13) (oi := { dst := some 81, op := Op.fieldAddr 25 (Operand.tmp 4) 2, type := _, pos := _, after := _, guard := some (11, false) }) (v := undef) rfl (by kernel_rfl) (by kernel_rfl) (by kernel_rfl) (fun _ _ _ h => h) (Or.inr ⟨by rfl, rfl⟩) hH ?_
  try simp only [Act.put, List.setIfInBounds_toArray, List.set_cons_zero, List.set_cons_succ]
  refine wpAnyH_take (i := 14) (oi := { dst := some 82, op := Op.load 21 (Operand.tmp 81), type := _, pos := _, after := _, guard := some (11, false) }) (v := undef) rfl (by kernel_rfl) (by kernel_rfl) (by kernel_rfl) (fun _ _ _ h => h) (Or.inr ⟨by rfl, rfl⟩) hH ?_
  try simp only [Act.put, List.setIfInBounds_toArray, List.set_cons_zero, List.set_cons_succ]
  refine wpAnyH_take (i := 15) (oi := { dst := some 83, op := Op.call { callee := Callee.value (Operand.func 15), args := #[Operand.tmp 82], argTypes := #[21] }, type := _, pos := _, after := _, guard := some (11, false) }) (v := undef) rfl (by kernel_rfl) (by kernel_rfl) (by kernel_rfl) (fun _ _ _ h => h) (Or.inr ⟨by rfl, rfl⟩) hH ?_
  try simp only [Act.put, List.setIfInBounds_toArray, List.set_cons_zero, List.set_cons_succ]
  refine wpAnyH_take (i := 16) (oi := { dst := some 84, op := Op.fieldAddr 25 (Operand.tmp 4) 3, type := _, pos := _, after := _, guard := some (11, false) }) (v := undef) rfl (by kernel_rfl) (by kernel_rfl) (by kernel_rfl) (fun _ _ _ h => h) (Or.inr ⟨by rfl, rfl⟩) hH ?_
  try simp only [Act.put, List.setIfInBounds_toArray, List.set_cons_zero, List.set_cons_succ]
  refine wpAnyH_take (i := 17) (oi := { dst := some 85, op := Op.load 21 (Operand.tmp 84), type := _, pos := _, after := _, guard := some (11, false) }) (v := undef) rfl (by kernel_rfl) (by kernel_rfl) (by kernel_rfl) (fun _ _ _ h => h) (Or.inr ⟨by rfl, rfl⟩) hH ?_
  try simp only [Act.put, List.setIfInBounds_toArray, List.set_cons_zero, List.set_cons_succ]
  refine wpAnyH_take (i := 18) (oi := { dst := some 86, op := Op.call { callee := Callee.value (Operand.func 15), args := #[Operand.tmp 85], argTypes := #[21] }, type := _, pos := _, after := _, guard := some (11, false) }) (v := undef) rfl (by kernel_rfl) (by kernel_rfl) (by kernel_rfl) (fun _ _ _ h => h) (Or.inr ⟨by rfl, rfl⟩) hH ?_
  try simp only [Act.put, List.setIfInBounds_toArray, List.set_cons_zero, List.set_cons_succ]
  refine wpAnyH_take (i := 19) (oi := { dst := some 87, op := Op.build 29 #[(0, Operand.tmp 83), (1, Operand.tmp 86)], type := _, pos := _, after := _, guard := some (11, false) }) (v := undef) rfl (by kernel_rfl) (by kernel_rfl) (by kernel_rfl) (fun _ _ _ h => h) (Or.inr ⟨by rfl, rfl⟩) hH ?_
  try simp only [Act.put, List.setIfInBounds_toArray, List.set_cons_zero, List.set_cons_succ]
  refine wpAnyH_take (i := 20) (oi := { dst := some 88, op := Op.binOp BinOp.neq 29 (Operand.tmp 80) (Operand.tmp 87) 29, type := _, pos := _, after := _, guard := some (11, false) }) (v := undef) rfl (by kernel_rfl) (by kernel_rfl) (by kernel_rfl) (fun _ _ _ h => h) (Or.inr ⟨by rfl, rfl⟩) hH ?_
  try simp only [Act.put, List.setIfInBounds_toArray, List.set_cons_zero, List.set_cons_succ]
  refine wpAnyH_take (i := 21) (oi := { dst := some 89, op := Op.pick (Operand.tmp 79) (Operand.const (Value.bool true)) (Operand.tmp 88), type := _, pos := _, after := _, guard := some (1, true) }) (v := undef) rfl (by kernel_rfl) (by kernel_rfl) (by kernel_rfl) (fun _ _ _ h => h) (Or.inr ⟨by rfl, rfl⟩) hH ?_
  try simp only [Act.put, List.setIfInBounds_toArray, List.set_cons_zero, List.set_cons_succ]
  refine wpAnyH_take (i := 22) (oi := { dst := some 90, op := Op.pick (Operand.tmp 69) (Operand.tmp 89) (Operand.const (Value.bool false)), type := _, pos := _, after := _, guard := none }) (v := ?_) rfl (by kernel_rfl) (by kernel_rfl) (by kernel_rfl) (fun _ _ _ h => h) (Or.inl ⟨by rfl, ?_⟩) hH ?_
  rotate_left
  · (intro w hSw; (try dsimp only at hSw); go_simp; (try with_reducible rfl))
  try simp only [Act.put, List.setIfInBounds_toArray, List.set_cons_zero, List.set_cons_succ]
  refine wpAnyH_done (by kernel_rfl) ?_ _
  refine NoPanic.normal ?_
  clear n0 n1 i0 i1 i2 i3 c0 c1 r0 r1 b0 b1 b2 b3 l0 l1 h0 h1 gg
  obtain ⟨n0, n1, i0, i1, i2, i3, c0, c1, r0, r1, b0, b1, b2, b3, l0, l1, h0, h1, gg⟩ := hH
  go_wp2_with fail
  refine wp_region_noPanic ?_
  refine wp_region_held_drew (S := (fun w' => w'.cell? ⟨w.heap.size, 0, none⟩ = some (.int .i32 x) ∧ w'.cell? ⟨w.heap.size, 1, none⟩ = some (.int .i32 y) ∧ w'.cell? ⟨w.heap.size + 1, 0, none⟩ = some (.int .i32 xa) ∧ w'.cell? ⟨w.heap.size + 1, 1, none⟩ = some (.int .i32 ya) ∧ w'.cell? ⟨w.heap.size + 1, 2, none⟩ = some (.int .i32 za) ∧ w'.cell? ⟨w.heap.size + 1, 3, none⟩ = some (.int .i32 ta) ∧ w'.cell? ⟨w.heap.size + 1 + 1, 0, none⟩ = some (.int .i32 cx) ∧ w'.cell? ⟨w.heap.size + 1 + 1, 1, none⟩ = some (.int .i32 cy) ∧ w'.cell? ⟨w2.heap.size, 0, none⟩ = some (.int .i32 p) ∧ w'.cell? ⟨w2.heap.size, 1, none⟩ = some (.int .i32 q) ∧ w'.cell? ⟨v4_16.heap.size, 0, none⟩ = some (.int .i32 xa) ∧ w'.cell? ⟨v4_16.heap.size, 1, none⟩ = some (.int .i32 ya) ∧ w'.cell? ⟨v4_16.heap.size, 2, none⟩ = some (.int .i32 za) ∧ w'.cell? ⟨v4_16.heap.size, 3, none⟩ = some (.int .i32 ta) ∧ w'.cell? ⟨w5.heap.size, 0, none⟩ = some (.int .i32 0) ∧ w'.cell? ⟨w5.heap.size, 1, none⟩ = some (.int .i32 0) ∧ w'.cell? ⟨w5.heap.size + 1, 0, none⟩ = some (.int .i32 0) ∧ w'.cell? ⟨w5.heap.size + 1, 1, none⟩ = some (.int .i32 0) ∧ Kep w.heap.size w w')) (by kernel_rfl) (⟨by rw [World.cell?_drew]; exact n0, by rw [World.cell?_drew]; exact n1, by rw [World.cell?_drew]; exact i0, by rw [World.cell?_drew]; exact i1, by rw [World.cell?_drew]; exact i2, by rw [World.cell?_drew]; exact i3, by rw [World.cell?_drew]; exact c0, by rw [World.cell?_drew]; exact c1, by rw [World.cell?_drew]; exact r0, by rw [World.cell?_drew]; exact r1, by rw [World.cell?_drew]; exact b0, by rw [World.cell?_drew]; exact b1, by rw [World.cell?_drew]; exact b2, by rw [World.cell?_drew]; exact b3, by rw [World.cell?_drew]; exact l0, by rw [World.cell?_drew]; exact l1, by rw [World.cell?_drew]; exact h0, by rw [World.cell?_drew]; exact h1, kep_drew gg⟩) (fun hH => ?_)
  refine wpAnyH_take (i := 0) (oi := { dst := some 91, op := Op.load 25 (Operand.tmp 4), type := _, pos := _, after := _, guard := none }) (v := ?_) rfl (by kernel_rfl) (by kernel_rfl) (by kernel_rfl) (fun _ _ _ h => h) (Or.inl ⟨by rfl, ?_⟩) hH ?_
  rotate_left
  · (intro w hSw; (try dsimp only at hSw); go_simp; (try with_reducible rfl))
  try simp only [Act.put, List.setIfInBounds_toArray, List.set_cons_zero, List.set_cons_succ]
  refine wpAnyH_ready (rs := [1]) (by kernel_rfl) (by simp) ?_
  refine AllReadyH.cons (o := { dst := some 92, op := Op.call { callee := Callee.value (Operand.func 16), args := #[Operand.tmp 91], argTypes := #[25] }, type := _, pos := _, after := _, guard := none }) rfl (fun K hK => ?_) AllReadyH.nil
  go_simp
  (with_reducible refine (N1.out _).mono ?_); rintro e v12_1 ⟨rfl, g⟩
  refine hK.out _ _ (by (try dsimp only); (go_split_ands; exact ⟨Kep.all g (by assumption), Kep.all g (by assumption), Kep.all g (by assumption), Kep.all g (by assumption), Kep.all g (by assumption), Kep.all g (by assumption), Kep.all g (by assumption), Kep.all g (by assumption), Kep.all g (by assumption), Kep.all g (by assumption), Kep.all g (by assumption), Kep.all g (by assumption), Kep.all g (by assumption), Kep.all g (by assumption), Kep.all g (by assumption), Kep.all g (by assumption), Kep.all g (by assumption), Kep.all g (by assumption), kep_next (by assumption) g⟩)) (fun hH2 => ?_)
  clear hK K hH; have hH := hH2; clear hH2
  try simp only [Act.put, List.setIfInBounds_toArray, List.set_cons_zero, List.set_cons_succ]
  refine wpAnyH_take (i := 2) (oi := { dst := some 93, op := Op.binOp BinOp.gtr 2 (Operand.tmp 92) (Operand.const (Value.int IntKind.i64 4000)) 2, type := _, pos := _, after := _, guard := none }) (v := ?_) rfl (by kernel_rfl) (by kernel_rfl) (by kernel_rfl) (fun _ _ _ h => h) (Or.inl ⟨by rfl, ?_⟩) hH ?_
  rotate_left
  · (intro w hSw; (try dsimp only at hSw); go_simp; (try with_reducible rfl))
  try simp only [Act.put, List.setIfInBounds_toArray, List.set_cons_zero, List.set_cons_succ]
  refine wpAnyH_take (i := 3) (oi := { dst := some 94, op := Op.move (Operand.tmp 93), type := _, pos := _, after := _, guard := none }) (v := ?_) rfl (by kernel_rfl) (by kernel_rfl) (by kernel_rfl) (fun _ _ _ h => h) (Or.inl ⟨by rfl, ?_⟩) hH ?_
  rotate_left
  · (intro w hSw; (try dsimp only at hSw); go_simp; (try with_reducible rfl))
  try simp only [Act.put, List.setIfInBounds_toArray, List.set_cons_zero, List.set_cons_succ]
  refine wpAnyH_take (i := 4) (oi := { dst := some 95, op := Op.load 33 (Operand.tmp 8), type := _, pos := _, after := _, guard := some (3, false) }) (v := ?_) rfl (by kernel_rfl) (by kernel_rfl) (by kernel_rfl) (fun _ _ _ h => h) (Or.inl ⟨by rfl, ?_⟩) hH ?_
  rotate_left
  · (intro w hSw; (try dsimp only at hSw); go_simp; (try with_reducible rfl))
  try simp only [Act.put, List.setIfInBounds_toArray, List.set_cons_zero, List.set_cons_succ]
  refine wpAnyH_take (i := 6) (oi := { dst := some 97, op := Op.load 25 (Operand.tmp 4), type := _, pos := _, after := _, guard := some (3, false) }) (v := ?_) rfl (by kernel_rfl) (by kernel_rfl) (by kernel_rfl) (fun _ _ _ h => h) (Or.inl ⟨by rfl, ?_⟩) hH ?_
  rotate_left
  · (intro w hSw; (try dsimp only at hSw); go_simp; (try with_reducible rfl))
  try simp only [Act.put, List.setIfInBounds_toArray, List.set_cons_zero, List.set_cons_succ]
  refine wpAnyH_ready (rs := [5]) (by kernel_rfl) (by simp) ?_
  refine AllReadyH.cons (o := { dst := some 96, op := Op.call { callee := Callee.value (Operand.func 18), args := #[Operand.tmp 95], argTypes := #[33] }, type := _, pos := _, after := _, guard := some (3, false) }) rfl (fun K hK => ?_) AllReadyH.nil
  go_simp
  (with_reducible refine (A1.out _).mono ?_); rintro e v12_5 ⟨ta1, rfl, qta1, g⟩
  refine hK.out _ _ (by (try dsimp only); (go_split_ands; exact ⟨Kep.all g (by assumption), Kep.all g (by assumption), Kep.all g (by assumption), Kep.all g (by assumption), Kep.all g (by assumption), Kep.all g (by assumption), Kep.all g (by assumption), Kep.all g (by assumption), Kep.all g (by assumption), Kep.all g (by assumption), Kep.all g (by assumption), Kep.all g (by assumption), Kep.all g (by assumption), Kep.all g (by assumption), Kep.all g (by assumption), Kep.all g (by assumption), Kep.all g (by assumption), Kep.all g (by assumption), kep_next (by assumption) g⟩)) (fun hH2 => ?_)
  clear hK K hH; have hH := hH2; clear hH2
  try simp only [Act.put, List.setIfInBounds_toArray, List.set_cons_zero, List.set_cons_succ]
  refine wpAnyH_ready (rs := [7]) (by kernel_rfl) (by simp) ?_
  refine AllReadyH.cons (o := { dst := some 98, op := Op.call { callee := Callee.value (Operand.func 19), args := #[Operand.tmp 97], argTypes := #[25] }, type := _, pos := _, after := _, guard := some (3, false) }) rfl (fun K hK => ?_) AllReadyH.nil
  go_simp
  (with_reducible refine (A2.out _).mono ?_); rintro e v12_7 ⟨ta2, rfl, qta2, g⟩
  replace qta1 := qta1.kep g
  refine hK.out _ _ (by (try dsimp only); (go_split_ands; exact ⟨Kep.all g (by assumption), Kep.all g (by assumption), Kep.all g (by assumption), Kep.all g (by assumption), Kep.all g (by assumption), Kep.all g (by assumption), Kep.all g (by assumption), Kep.all g (by assumption), Kep.all g (by assumption), Kep.all g (by assumption), Kep.all g (by assumption), Kep.all g (by assumption), Kep.all g (by assumption), Kep.all g (by assumption), Kep.all g (by assumption), Kep.all g (by assumption), Kep.all g (by assumption), Kep.all g (by assumption), kep_next (by assumption) g⟩)) (fun hH2 => ?_)
  clear hK K hH; have hH := hH2; clear hH2
  try simp only [Act.put, List.setIfInBounds_toArray, List.set_cons_zero, List.set_cons_succ]
  refine wpAnyH_ready (rs := [8]) (by kernel_rfl) (by simp) ?_
  refine AllReadyH.cons (o := { dst := some 99, op := Op.call { callee := Callee.value (Operand.func 17), args := #[Operand.tmp 96, Operand.tmp 98], argTypes := #[40, 42] }, type := _, pos := _, after := _, guard := some (3, false) }) rfl (fun K hK => ?_) AllReadyH.nil
  go_simp
  (with_reducible refine (SA.out _ _ _ qta1 qta2).mono ?_); rintro e v12_8 ⟨rfl, g⟩
  refine hK.out _ _ (by (try dsimp only); (go_split_ands; exact ⟨Kep.all g (by assumption), Kep.all g (by assumption), Kep.all g (by assumption), Kep.all g (by assumption), Kep.all g (by assumption), Kep.all g (by assumption), Kep.all g (by assumption), Kep.all g (by assumption), Kep.all g (by assumption), Kep.all g (by assumption), Kep.all g (by assumption), Kep.all g (by assumption), Kep.all g (by assumption), Kep.all g (by assumption), Kep.all g (by assumption), Kep.all g (by assumption), Kep.all g (by assumption), Kep.all g (by assumption), kep_next (by assumption) g⟩)) (fun hH2 => ?_)
  clear hK K hH; have hH := hH2; clear hH2
  try simp only [Act.put, List.setIfInBounds_toArray, List.set_cons_zero, List.set_cons_succ]
  refine wpAnyH_take (i := 9) (oi := { dst := some 100, op := Op.pick (Operand.tmp 94) (Operand.const (Value.bool true)) (Operand.tmp 99), type := _, pos := _, after := _, guard := none }) (v := ?_) rfl (by kernel_rfl) (by kernel_rfl) (by kernel_rfl) (fun _ _ _ h => h) (Or.inl ⟨by rfl, ?_⟩) hH ?_
  rotate_left
  · (intro w hSw; (try dsimp only at hSw); go_simp; (try with_reducible rfl))
  try simp only [Act.put, List.setIfInBounds_toArray, List.set_cons_zero, List.set_cons_succ]
  refine wpAnyH_take (i := 10) (oi := { dst := some 6, op := Op.assign (Operand.tmp 100), type := _, pos := _, after := _, guard := none }) (v := ?_) rfl (by kernel_rfl) (by kernel_rfl) (by kernel_rfl) (fun _ _ _ h => h) (Or.inl ⟨by rfl, ?_⟩) hH ?_
  rotate_left
  · (intro w hSw; (try dsimp only at hSw); go_simp; (try with_reducible rfl))
  try simp only [Act.put, List.setIfInBounds_toArray, List.set_cons_zero, List.set_cons_succ]
  refine wpAnyH_done (by kernel_rfl) ?_ _
  refine NoPanic.normal ?_
  clear n0 n1 i0 i1 i2 i3 c0 c1 r0 r1 b0 b1 b2 b3 l0 l1 h0 h1 gg
  obtain ⟨n0, n1, i0, i1, i2, i3, c0, c1, r0, r1, b0, b1, b2, b3, l0, l1, h0, h1, gg⟩ := hH
  go_wp2_with fail
  go_ret
  exact ⟨rfl, gg⟩
end Go.Proofs.YtnbncdgadahhbaaDoor
