import Derived.Test.YtnmnbogjnjbopaaDoorCellCon
import Derived.Deep.DeepCutAuto
import Derived.StillTailTactics
import Derived.Deep.QuietTactic
import Derived.BigQuiet
import Derived.Test.YtnmnbogjnjbopaaDoorFac
import Derived.Test.YtnmnbogjnjbopaaDoorIter

/-! CellOps: CellOps1, CellOps2, CellOps3. -/

section
/-
  Package cell: its functions but All.
-/
namespace Go.Proofs.YtnmnbogjnjbopaaDoor
open Go.RowKit Go.Lib

abbrev PeO (x y p q : Int) : Prop := ∀ w, Calls Tryd.prog 50 #[.agg #[.int .i32 x, .int .i32 y]] w fun e w' => e = .returned (.agg #[.int .i32 p, .int .i32 q]) ∧ Bel w w'
set_option maxRecDepth 100000 in
set_option maxHeartbeats 1000000 in
theorem peo (x y : Int) (hx : In3 x) (hy : In3 y) : PeO x y (colN x) (colN y) := fun w => by
  have c1 := colN_in hx
  have c2 := colN_in hy
  unfold colN at *
  have e1 : IntKind.i32.wrap (x / 4194304) = x / 4194304 := by rw [IntKind.wrap_i32]; omega
  have e2 : IntKind.i32.wrap (y / 4194304) = y / 4194304 := by rw [IntKind.wrap_i32]; omega
  clear c1 c2 hx hy
  go_enter Tryd.func50, Tryd.ntmps50
  go_wp2_with fail
  exact bodyPost_ret (v := .agg #[.int .i32 (x / 4194304), .int .i32 (y / 4194304)]) (by simp [results, Tryd.results50, go_sem]) rfl ⟨rfl, (bel_more (bel_more (Below.refl _ _) _) _)⟩
abbrev PeE (xa ya za ta : Int) (z : Bool) : Prop := ∀ w, Calls Tryd.prog 76 #[.agg #[.int .i32 xa, .int .i32 ya, .int .i32 za, .int .i32 ta]] w fun e w' => e = .returned (.bool z) ∧ Bel w w'
theorem pee (xa ya za ta : Int) (z : Bool) (hz : empB xa ya za ta = z) : PeE xa ya za ta z := fun w => by
  by_cases g0 : za < xa
  · have d0 : decide (za < xa) = true := decide_eq_true g0
    obtain rfl : true = z := by rw [← hz]; unfold empB; exact (decide_eq_true (by omega)).symm
    clear hz
    go_enter Tryd.func76, Tryd.ntmps76
    go_wp2
    go_ret
    exact ⟨rfl, (bel_more (Below.refl _ _) _)⟩
  have d0 : decide (za < xa) = false := decide_eq_false g0
  by_cases g1 : ta < ya
  · have d1 : decide (ta < ya) = true := decide_eq_true g1
    obtain rfl : true = z := by rw [← hz]; unfold empB; exact (decide_eq_true (by omega)).symm
    clear hz
    go_enter Tryd.func76, Tryd.ntmps76
    go_wp2
    go_ret
    exact ⟨rfl, (bel_more (Below.refl _ _) _)⟩
  have d1 : decide (ta < ya) = false := decide_eq_false g1
  obtain rfl : false = z := by rw [← hz]; unfold empB; exact (decide_eq_false (by omega)).symm
  clear hz
  go_enter Tryd.func76, Tryd.ntmps76
  go_wp2
  go_ret
  exact ⟨rfl, (bel_more (Below.refl _ _) _)⟩
abbrev PeS (xa ya za ta p q u v : Int) (z : Bool) : Prop := ∀ w, Calls Tryd.prog 101 #[.agg #[.int .i32 xa, .int .i32 ya, .int .i32 za, .int .i32 ta]] w fun e w' => e = .returned (.tuple #[.agg #[.int .i32 p, .int .i32 q], .agg #[.int .i32 u, .int .i32 v], .bool z]) ∧ Bel w w'
theorem pes_no (xa ya za ta : Int) (E1 : Hid (PeE xa ya za ta true)) : PeS xa ya za ta 0 0 0 0 false := fun w => by
  go_enter Tryd.func101, Tryd.ntmps101
  go_wp2_with (first
    | ((with_reducible refine (E1.out _).mono ?_); rintro e w1 ⟨rfl, g1⟩
       have i0 := bel_all g1 (a := ⟨w.heap.size, 0, none⟩) (v := .int .i32 xa) (by (repeat (first | rw [World.cell?_drew] | rw [World.cell?_alloc_past _ _ _ (by first | (simp; done) | (simp; omega))])); rw [World.cell?_alloc_at _ _ _ _ (by simp)]; rfl)
       have i1 := bel_all g1 (a := ⟨w.heap.size, 1, none⟩) (v := .int .i32 ya) (by (repeat (first | rw [World.cell?_drew] | rw [World.cell?_alloc_past _ _ _ (by first | (simp; done) | (simp; omega))])); rw [World.cell?_alloc_at _ _ _ _ (by simp)]; rfl)
       have i2 := bel_all g1 (a := ⟨w.heap.size, 2, none⟩) (v := .int .i32 za) (by (repeat (first | rw [World.cell?_drew] | rw [World.cell?_alloc_past _ _ _ (by first | (simp; done) | (simp; omega))])); rw [World.cell?_alloc_at _ _ _ _ (by simp)]; rfl)
       have i3 := bel_all g1 (a := ⟨w.heap.size, 3, none⟩) (v := .int .i32 ta) (by (repeat (first | rw [World.cell?_drew] | rw [World.cell?_alloc_past _ _ _ (by first | (simp; done) | (simp; omega))])); rw [World.cell?_alloc_at _ _ _ _ (by simp)]; rfl)
       have l0 := bel_all g1 (a := ⟨w.heap.size + 1, 0, none⟩) (v := .int .i32 0) (by (repeat (first | rw [World.cell?_drew] | rw [World.cell?_alloc_past _ _ _ (by first | (simp; done) | (simp; omega))])); rw [World.cell?_alloc_at _ _ _ _ (by simp)]; rfl)
       have l1 := bel_all g1 (a := ⟨w.heap.size + 1, 1, none⟩) (v := .int .i32 0) (by (repeat (first | rw [World.cell?_drew] | rw [World.cell?_alloc_past _ _ _ (by first | (simp; done) | (simp; omega))])); rw [World.cell?_alloc_at _ _ _ _ (by simp)]; rfl)
       have h0 := bel_all g1 (a := ⟨w.heap.size + 1 + 1, 0, none⟩) (v := .int .i32 0) (by (repeat (first | rw [World.cell?_drew] | rw [World.cell?_alloc_past _ _ _ (by first | (simp; done) | (simp; omega))])); rw [World.cell?_alloc_at _ _ _ _ (by simp)]; rfl)
       have h1 := bel_all g1 (a := ⟨w.heap.size + 1 + 1, 1, none⟩) (v := .int .i32 0) (by (repeat (first | rw [World.cell?_drew] | rw [World.cell?_alloc_past _ _ _ (by first | (simp; done) | (simp; omega))])); rw [World.cell?_alloc_at _ _ _ _ (by simp)]; rfl)
       have gg := bel_next (bel_more (bel_more (bel_more (Below.refl _ _) _) _) _) g1
       have fl0 := bel_frozen g1 (b := w.heap.size + 1) (o := 0) (by (repeat (first | rw [World.frozen?_drew] | rw [World.frozen?_alloc_past _ _ _ (by first | (simp; done) | (simp; omega))])); rw [World.frozen?_alloc_at _ _ _ _ (by simp)]) (by first | (simp; done) | (simp; omega))
       have fl1 := bel_frozen g1 (b := w.heap.size + 1) (o := 1) (by (repeat (first | rw [World.frozen?_drew] | rw [World.frozen?_alloc_past _ _ _ (by first | (simp; done) | (simp; omega))])); rw [World.frozen?_alloc_at _ _ _ _ (by simp)]) (by first | (simp; done) | (simp; omega))
       have fh0 := bel_frozen g1 (b := w.heap.size + 1 + 1) (o := 0) (by (repeat (first | rw [World.frozen?_drew] | rw [World.frozen?_alloc_past _ _ _ (by first | (simp; done) | (simp; omega))])); rw [World.frozen?_alloc_at _ _ _ _ (by simp)]) (by first | (simp; done) | (simp; omega))
       have fh1 := bel_frozen g1 (b := w.heap.size + 1 + 1) (o := 1) (by (repeat (first | rw [World.frozen?_drew] | rw [World.frozen?_alloc_past _ _ _ (by first | (simp; done) | (simp; omega))])); rw [World.frozen?_alloc_at _ _ _ _ (by simp)]) (by first | (simp; done) | (simp; omega))
       have zi_w1 : w.heap.size < w1.heap.size := World.block_lt_of_cell? _ _ i0
       have zl_w1 : w.heap.size + 1 < w1.heap.size := World.block_lt_of_cell? _ _ l0
       have zh_w1 : w.heap.size + 1 + 1 < w1.heap.size := World.block_lt_of_cell? _ _ h0))
  exact bodyPost_ret (v := .tuple #[.agg #[.int .i32 0, .int .i32 0], .agg #[.int .i32 0, .int .i32 0], .bool false]) (by simp [results, Tryd.results101, go_sem, l0, l1, h0, h1]) rfl ⟨rfl, (bel_set (bel_set (bel_set (bel_set gg (by dsimp only; omega) _) (by dsimp only; omega) _) (by dsimp only; omega) _) (by dsimp only; omega) _)⟩
set_option maxRecDepth 100000 in
set_option maxHeartbeats 2000000 in
theorem pes (xa ya za ta p q u v : Int) (E1 : Hid (PeE xa ya za ta false)) (C1 : Hid (PeO xa ya p q)) (C2 : Hid (PeO za ta u v)) : PeS xa ya za ta p q u v true := fun w => by
  go_enter Tryd.func101, Tryd.ntmps101
  go_wp2_with (first
    | ((with_reducible refine (E1.out _).mono ?_); rintro e w1 ⟨rfl, g1⟩
       have i0 := bel_all g1 (a := ⟨w.heap.size, 0, none⟩) (v := .int .i32 xa) (by (repeat (first | rw [World.cell?_drew] | rw [World.cell?_alloc_past _ _ _ (by first | (simp; done) | (simp; omega))])); rw [World.cell?_alloc_at _ _ _ _ (by simp)]; rfl)
       have i1 := bel_all g1 (a := ⟨w.heap.size, 1, none⟩) (v := .int .i32 ya) (by (repeat (first | rw [World.cell?_drew] | rw [World.cell?_alloc_past _ _ _ (by first | (simp; done) | (simp; omega))])); rw [World.cell?_alloc_at _ _ _ _ (by simp)]; rfl)
       have i2 := bel_all g1 (a := ⟨w.heap.size, 2, none⟩) (v := .int .i32 za) (by (repeat (first | rw [World.cell?_drew] | rw [World.cell?_alloc_past _ _ _ (by first | (simp; done) | (simp; omega))])); rw [World.cell?_alloc_at _ _ _ _ (by simp)]; rfl)
       have i3 := bel_all g1 (a := ⟨w.heap.size, 3, none⟩) (v := .int .i32 ta) (by (repeat (first | rw [World.cell?_drew] | rw [World.cell?_alloc_past _ _ _ (by first | (simp; done) | (simp; omega))])); rw [World.cell?_alloc_at _ _ _ _ (by simp)]; rfl)
       have gg := bel_next (bel_more (bel_more (bel_more (Below.refl _ _) _) _) _) g1
       have sl0 := bel_some g1 (a := ⟨w.heap.size + 1, 0, none⟩) (by (repeat (first | rw [World.cell?_drew] | rw [World.cell?_alloc_past _ _ _ (by first | (simp; done) | (simp; omega))])); rw [World.cell?_alloc_at _ _ _ _ (by simp)]; rfl)
       have sl1 := bel_some g1 (a := ⟨w.heap.size + 1, 1, none⟩) (by (repeat (first | rw [World.cell?_drew] | rw [World.cell?_alloc_past _ _ _ (by first | (simp; done) | (simp; omega))])); rw [World.cell?_alloc_at _ _ _ _ (by simp)]; rfl)
       have fl0 := bel_froz g1 (a := ⟨w.heap.size + 1, 0, none⟩) (by (repeat (first | rw [World.cell?_drew] | rw [World.cell?_alloc_past _ _ _ (by first | (simp; done) | (simp; omega))])); rw [World.cell?_alloc_at _ _ _ _ (by simp)]; rfl) (by (repeat (first | rw [World.frozen?_drew] | rw [World.frozen?_alloc_past _ _ _ (by first | (simp; done) | (simp; omega))])); rw [World.frozen?_alloc_at _ _ _ _ (by simp)])
       have fl1 := bel_froz g1 (a := ⟨w.heap.size + 1, 1, none⟩) (by (repeat (first | rw [World.cell?_drew] | rw [World.cell?_alloc_past _ _ _ (by first | (simp; done) | (simp; omega))])); rw [World.cell?_alloc_at _ _ _ _ (by simp)]; rfl) (by (repeat (first | rw [World.frozen?_drew] | rw [World.frozen?_alloc_past _ _ _ (by first | (simp; done) | (simp; omega))])); rw [World.frozen?_alloc_at _ _ _ _ (by simp)])
       have sh0 := bel_some g1 (a := ⟨w.heap.size + 1 + 1, 0, none⟩) (by (repeat (first | rw [World.cell?_drew] | rw [World.cell?_alloc_past _ _ _ (by first | (simp; done) | (simp; omega))])); rw [World.cell?_alloc_at _ _ _ _ (by simp)]; rfl)
       have sh1 := bel_some g1 (a := ⟨w.heap.size + 1 + 1, 1, none⟩) (by (repeat (first | rw [World.cell?_drew] | rw [World.cell?_alloc_past _ _ _ (by first | (simp; done) | (simp; omega))])); rw [World.cell?_alloc_at _ _ _ _ (by simp)]; rfl)
       have fh0 := bel_froz g1 (a := ⟨w.heap.size + 1 + 1, 0, none⟩) (by (repeat (first | rw [World.cell?_drew] | rw [World.cell?_alloc_past _ _ _ (by first | (simp; done) | (simp; omega))])); rw [World.cell?_alloc_at _ _ _ _ (by simp)]; rfl) (by (repeat (first | rw [World.frozen?_drew] | rw [World.frozen?_alloc_past _ _ _ (by first | (simp; done) | (simp; omega))])); rw [World.frozen?_alloc_at _ _ _ _ (by simp)])
       have fh1 := bel_froz g1 (a := ⟨w.heap.size + 1 + 1, 1, none⟩) (by (repeat (first | rw [World.cell?_drew] | rw [World.cell?_alloc_past _ _ _ (by first | (simp; done) | (simp; omega))])); rw [World.cell?_alloc_at _ _ _ _ (by simp)]; rfl) (by (repeat (first | rw [World.frozen?_drew] | rw [World.frozen?_alloc_past _ _ _ (by first | (simp; done) | (simp; omega))])); rw [World.frozen?_alloc_at _ _ _ _ (by simp)])
       have zi_w1 : w.heap.size < w1.heap.size := World.block_lt_of_cell? _ _ i0))
  refine wp_region_noPanic ?_
  refine wp_region_held_drew (S := (fun w' => w'.cell? ⟨w.heap.size, 0, none⟩ = some (.int .i32 xa) ∧ w'.cell? ⟨w.heap.size, 1, none⟩ = some (.int .i32 ya) ∧ w'.cell? ⟨w.heap.size, 2, none⟩ = some (.int .i32 za) ∧ w'.cell? ⟨w.heap.size, 3, none⟩ = some (.int .i32 ta) ∧ (w'.cell? ⟨w.heap.size + 1, 0, none⟩).isSome = true ∧ (w'.cell? ⟨w.heap.size + 1, 1, none⟩).isSome = true ∧ w'.frozen? ⟨w.heap.size + 1, 0, none⟩ = false ∧ w'.frozen? ⟨w.heap.size + 1, 1, none⟩ = false ∧ (w'.cell? ⟨w.heap.size + 1 + 1, 0, none⟩).isSome = true ∧ (w'.cell? ⟨w.heap.size + 1 + 1, 1, none⟩).isSome = true ∧ w'.frozen? ⟨w.heap.size + 1 + 1, 0, none⟩ = false ∧ w'.frozen? ⟨w.heap.size + 1 + 1, 1, none⟩ = false ∧ Bel w w')) (by kernel_rfl) (⟨by rw [World.cell?_drew]; exact i0, by rw [World.cell?_drew]; exact i1, by rw [World.cell?_drew]; exact i2, by rw [World.cell?_drew]; exact i3, by rw [World.cell?_drew]; exact sl0, by rw [World.cell?_drew]; exact sl1, by rw [World.frozen?_drew]; exact fl0, by rw [World.frozen?_drew]; exact fl1, by rw [World.cell?_drew]; exact sh0, by rw [World.cell?_drew]; exact sh1, by rw [World.frozen?_drew]; exact fh0, by rw [World.frozen?_drew]; exact fh1, bel_drew gg⟩) (fun hH => ?_)
  refine wpAnyH_take (i := 0) (oi := { dst := some 9, op := Op.fieldAddr 60 (Operand.tmp 1) 0, type := _, pos := _, after := _, guard := none }) (v := ?_) rfl (by kernel_rfl) (by kernel_rfl) (by kernel_rfl) (fun _ _ _ h => h) (Or.inl ⟨by rfl, ?_⟩) hH ?_
  rotate_left
  · (intro w hSw; (try dsimp only at hSw); go_simp; (try with_reducible rfl))
  try simp only [Act.put, List.setIfInBounds_toArray, List.set_cons_zero, List.set_cons_succ]
  refine wpAnyH_take (i := 1) (oi := { dst := some 10, op := Op.load 21 (Operand.tmp 9), type := _, pos := _, after := _, guard := none }) (v := ?_) rfl (by kernel_rfl) (by kernel_rfl) (by kernel_rfl) (fun _ _ _ h => h) (Or.inl ⟨by rfl, ?_⟩) hH ?_
  rotate_left
  · (intro w hSw; (try dsimp only at hSw); go_simp; (try with_reducible rfl))
  try simp only [Act.put, List.setIfInBounds_toArray, List.set_cons_zero, List.set_cons_succ]
  refine wpAnyH_take (i := 2) (oi := { dst := some 11, op := Op.fieldAddr 60 (Operand.tmp 1) 1, type := _, pos := _, after := _, guard := none }) (v := ?_) rfl (by kernel_rfl) (by kernel_rfl) (by kernel_rfl) (fun _ _ _ h => h) (Or.inl ⟨by rfl, ?_⟩) hH ?_
  rotate_left
  · (intro w hSw; (try dsimp only at hSw); go_simp; (try with_reducible rfl))
  try simp only [Act.put, List.setIfInBounds_toArray, List.set_cons_zero, List.set_cons_succ]
  refine wpAnyH_take (i := 3) (oi := { dst := some 12, op := Op.load 21 (Operand.tmp 11), type := _, pos := _, after := _, guard := none }) (v := ?_) rfl (by kernel_rfl) (by kernel_rfl) (by kernel_rfl) (fun _ _ _ h => h) (Or.inl ⟨by rfl, ?_⟩) hH ?_
  rotate_left
  · (intro w hSw; (try dsimp only at hSw); go_simp; (try with_reducible rfl))
  try simp only [Act.put, List.setIfInBounds_toArray, List.set_cons_zero, List.set_cons_succ]
  refine wpAnyH_take (i := 4) (oi := { dst := some 13, op := Op.build 24 #[(0, Operand.tmp 10), (1, Operand.tmp 12)], type := _, pos := _, after := _, guard := none }) (v := ?_) rfl (by kernel_rfl) (by kernel_rfl) (by kernel_rfl) (fun _ _ _ h => h) (Or.inl ⟨by rfl, ?_⟩) hH ?_
  rotate_left
  · (intro w hSw; (try dsimp only at hSw); go_simp; (try with_reducible rfl))
  try simp only [Act.put, List.setIfInBounds_toArray, List.set_cons_zero, List.set_cons_succ]
  refine wpAnyH_take (i := 6) (oi := { dst := some 15, op := Op.fieldAddr 60 (Operand.tmp 1) 2, type := _, pos := _, after := _, guard := none }) (v := ?_) rfl (by kernel_rfl) (by kernel_rfl) (by kernel_rfl) (fun _ _ _ h => h) (Or.inl ⟨by rfl, ?_⟩) hH ?_
  rotate_left
  · (intro w hSw; (try dsimp only at hSw); go_simp; (try with_reducible rfl))
  try simp only [Act.put, List.setIfInBounds_toArray, List.set_cons_zero, List.set_cons_succ]
  refine wpAnyH_take (i := 7) (oi := { dst := some 16, op := Op.load 21 (Operand.tmp 15), type := _, pos := _, after := _, guard := none }) (v := ?_) rfl (by kernel_rfl) (by kernel_rfl) (by kernel_rfl) (fun _ _ _ h => h) (Or.inl ⟨by rfl, ?_⟩) hH ?_
  rotate_left
  · (intro w hSw; (try dsimp only at hSw); go_simp; (try with_reducible rfl))
  try simp only [Act.put, List.setIfInBounds_toArray, List.set_cons_zero, List.set_cons_succ]
  refine wpAnyH_take (i := 8) (oi := { dst := some 17, op := Op.fieldAddr 60 (Operand.tmp 1) 3, type := _, pos := _, after := _, guard := none }) (v := ?_) rfl (by kernel_rfl) (by kernel_rfl) (by kernel_rfl) (fun _ _ _ h => h) (Or.inl ⟨by rfl, ?_⟩) hH ?_
  rotate_left
  · (intro w hSw; (try dsimp only at hSw); go_simp; (try with_reducible rfl))
  try simp only [Act.put, List.setIfInBounds_toArray, List.set_cons_zero, List.set_cons_succ]
  refine wpAnyH_take (i := 9) (oi := { dst := some 18, op := Op.load 21 (Operand.tmp 17), type := _, pos := _, after := _, guard := none }) (v := ?_) rfl (by kernel_rfl) (by kernel_rfl) (by kernel_rfl) (fun _ _ _ h => h) (Or.inl ⟨by rfl, ?_⟩) hH ?_
  rotate_left
  · (intro w hSw; (try dsimp only at hSw); go_simp; (try with_reducible rfl))
  try simp only [Act.put, List.setIfInBounds_toArray, List.set_cons_zero, List.set_cons_succ]
  refine wpAnyH_take (i := 10) (oi := { dst := some 19, op := Op.build 24 #[(0, Operand.tmp 16), (1, Operand.tmp 18)], type := _, pos := _, after := _, guard := none }) (v := ?_) rfl (by kernel_rfl) (by kernel_rfl) (by kernel_rfl) (fun _ _ _ h => h) (Or.inl ⟨by rfl, ?_⟩) hH ?_
  rotate_left
  · (intro w hSw; (try dsimp only at hSw); go_simp; (try with_reducible rfl))
  try simp only [Act.put, List.setIfInBounds_toArray, List.set_cons_zero, List.set_cons_succ]
  refine wpAnyH_ready (rs := [5]) (by kernel_rfl) (by simp) ?_
  refine AllReadyH.cons (o := { dst := some 14, op := Op.call { callee := Callee.value (Operand.func 50), args := #[Operand.tmp 13], argTypes := #[24] }, type := _, pos := _, after := _, guard := none }) rfl (fun K hK => ?_) AllReadyH.nil
  go_simp
  (with_reducible refine (C1.out _).mono ?_); rintro e v3_5 ⟨rfl, g⟩
  refine hK.out _ _ (by (try dsimp only); (go_split_ands; exact ⟨bel_all g (by assumption), bel_all g (by assumption), bel_all g (by assumption), bel_all g (by assumption), bel_some g (by assumption), bel_some g (by assumption), bel_froz g (by assumption) (by assumption), bel_froz g (by assumption) (by assumption), bel_some g (by assumption), bel_some g (by assumption), bel_froz g (by assumption) (by assumption), bel_froz g (by assumption) (by assumption), bel_next (by assumption) g⟩)) (fun hH2 => ?_)
  clear hK K hH; have hH := hH2; clear hH2
  try simp only [Act.put, List.setIfInBounds_toArray, List.set_cons_zero, List.set_cons_succ]
  refine wpAnyH_ready (rs := [11]) (by kernel_rfl) (by simp) ?_
  refine AllReadyH.cons (o := { dst := some 20, op := Op.call { callee := Callee.value (Operand.func 50), args := #[Operand.tmp 19], argTypes := #[24] }, type := _, pos := _, after := _, guard := none }) rfl (fun K hK => ?_) AllReadyH.nil
  go_simp
  (with_reducible refine (C2.out _).mono ?_); rintro e v3_11 ⟨rfl, g⟩
  refine hK.out _ _ (by (try dsimp only); (go_split_ands; exact ⟨bel_all g (by assumption), bel_all g (by assumption), bel_all g (by assumption), bel_all g (by assumption), bel_some g (by assumption), bel_some g (by assumption), bel_froz g (by assumption) (by assumption), bel_froz g (by assumption) (by assumption), bel_some g (by assumption), bel_some g (by assumption), bel_froz g (by assumption) (by assumption), bel_froz g (by assumption) (by assumption), bel_next (by assumption) g⟩)) (fun hH2 => ?_)
  clear hK K hH; have hH := hH2; clear hH2
  try simp only [Act.put, List.setIfInBounds_toArray, List.set_cons_zero, List.set_cons_succ]
  obtain ⟨i0, i1, i2, i3, sl0, sl1, fl0, fl1, sh0, sh1, fh0, fh1, gg⟩ := id hH
  refine wpAnyH_ready (rs := [12]) (by kernel_rfl) (by simp) ?_
  refine AllReadyH.cons (o := { dst := none, op := Op.store 92 (Operand.tmp 2) (Operand.tmp 14), type := _, pos := _, after := _, guard := none }) rfl (fun K hK => ?_) AllReadyH.nil
  obtain ⟨ql0, eql0⟩ := Option.isSome_iff_exists.1 sl0
  obtain ⟨ql1, eql1⟩ := Option.isSome_iff_exists.1 sl1
  obtain ⟨qh0, eqh0⟩ := Option.isSome_iff_exists.1 sh0
  obtain ⟨qh1, eqh1⟩ := Option.isSome_iff_exists.1 sh1
  have bl0 := eql0
  have bl1 := eql1
  have bh0 := eqh0
  have bh1 := eqh1
  go_simp
  refine hK.out _ _ (by (try dsimp only); exact ⟨sset_far (sset_far (i0) (by first | (simp; done) | (simp; omega))) (by first | (simp; done) | (simp; omega)), sset_far (sset_far (i1) (by first | (simp; done) | (simp; omega))) (by first | (simp; done) | (simp; omega)), sset_far (sset_far (i2) (by first | (simp; done) | (simp; omega))) (by first | (simp; done) | (simp; omega)), sset_far (sset_far (i3) (by first | (simp; done) | (simp; omega))) (by first | (simp; done) | (simp; omega)), sset_some _ _ _ (sset_some _ _ _ (sl0)), sset_some _ _ _ (sset_some _ _ _ (sl1)), sset_froz (sset_froz (fl0)), sset_froz (sset_froz (fl1)), sset_some _ _ _ (sset_some _ _ _ (sh0)), sset_some _ _ _ (sset_some _ _ _ (sh1)), sset_froz (sset_froz (fh0)), sset_froz (sset_froz (fh1)), bel_set (bel_set (gg) (by first | (simp; done) | (simp; omega)) _) (by first | (simp; done) | (simp; omega)) _⟩) (fun hH2 => ?_)
  clear hK K hH i0 i1 i2 i3 sl0 sl1 fl0 fl1 sh0 sh1 fh0 fh1 gg eql0 eql1 eqh0 eqh1; have hH := hH2; clear hH2
  try simp only [Act.put, List.setIfInBounds_toArray, List.set_cons_zero, List.set_cons_succ]
  obtain ⟨i0, i1, i2, i3, sl0, sl1, fl0, fl1, sh0, sh1, fh0, fh1, gg⟩ := id hH
  refine wpAnyH_ready (rs := [13]) (by kernel_rfl) (by simp) ?_
  refine AllReadyH.cons (o := { dst := none, op := Op.store 92 (Operand.tmp 3) (Operand.tmp 20), type := _, pos := _, after := _, guard := none }) rfl (fun K hK => ?_) AllReadyH.nil
  obtain ⟨ql0, eql0⟩ := Option.isSome_iff_exists.1 sl0
  obtain ⟨ql1, eql1⟩ := Option.isSome_iff_exists.1 sl1
  obtain ⟨qh0, eqh0⟩ := Option.isSome_iff_exists.1 sh0
  obtain ⟨qh1, eqh1⟩ := Option.isSome_iff_exists.1 sh1
  go_simp
  refine hK.out _ _ (by (try dsimp only); exact ⟨sset_far (sset_far (i0) (by first | (simp; done) | (simp; omega))) (by first | (simp; done) | (simp; omega)), sset_far (sset_far (i1) (by first | (simp; done) | (simp; omega))) (by first | (simp; done) | (simp; omega)), sset_far (sset_far (i2) (by first | (simp; done) | (simp; omega))) (by first | (simp; done) | (simp; omega)), sset_far (sset_far (i3) (by first | (simp; done) | (simp; omega))) (by first | (simp; done) | (simp; omega)), sset_some _ _ _ (sset_some _ _ _ (sl0)), sset_some _ _ _ (sset_some _ _ _ (sl1)), sset_froz (sset_froz (fl0)), sset_froz (sset_froz (fl1)), sset_some _ _ _ (sset_some _ _ _ (sh0)), sset_some _ _ _ (sset_some _ _ _ (sh1)), sset_froz (sset_froz (fh0)), sset_froz (sset_froz (fh1)), bel_set (bel_set (gg) (by first | (simp; done) | (simp; omega)) _) (by first | (simp; done) | (simp; omega)) _⟩) (fun hH2 => ?_)
  clear hK K hH i0 i1 i2 i3 sl0 sl1 fl0 fl1 sh0 sh1 fh0 fh1 gg eql0 eql1 eqh0 eqh1; have hH := hH2; clear hH2
  try simp only [Act.put, List.setIfInBounds_toArray, List.set_cons_zero, List.set_cons_succ]
  refine wpAnyH_take (i := 14) (oi := { dst := some 4, op := Op.assign (Operand.const (Value.bool true)), type := _, pos := _, after := _, guard := none }) (v := ?_) rfl (by kernel_rfl) (by kernel_rfl) (by kernel_rfl) (fun _ _ _ h => h) (Or.inl ⟨by rfl, ?_⟩) hH ?_
  rotate_left
  · (intro w hSw; (try dsimp only at hSw); go_simp; (try with_reducible rfl))
  try simp only [Act.put, List.setIfInBounds_toArray, List.set_cons_zero, List.set_cons_succ]
  refine wpAnyH_done (by kernel_rfl) ?_ _
  refine NoPanic.normal ?_
  clear i0 i1 i2 i3 sl0 sl1 fl0 fl1 sh0 sh1 fh0 fh1 gg
  obtain ⟨i0, i1, i2, i3, sl0, sl1, fl0, fl1, sh0, sh1, fh0, fh1, gg⟩ := hH
  go_wp2_with fail
  exact bodyPost_ret (v := .tuple #[.agg #[.int .i32 p, .int .i32 q], .agg #[.int .i32 u, .int .i32 v], .bool true]) (by simp [results, Tryd.results101, go_sem, bl0, bl1, bh0, bh1]) rfl ⟨rfl, gg⟩
end Go.Proofs.YtnmnbogjnjbopaaDoor
end

section
/-
  Package cell: Bounds, Bucket.
-/
namespace Go.Proofs.YtnmnbogjnjbopaaDoor
open Go.RowKit Go.Lib

theorem xor_u32 (a b : Nat) (ha : a < 2 ^ 32) (hb : b < 2 ^ 32) : bits .xor .u32 (a : Int) (b : Int) = ((a ^^^ b : Nat) : Int) := by
  show IntKind.u32.wrap ((BitVec.ofInt 32 (a : Int) ^^^ BitVec.ofInt 32 (b : Int)).toNat : Int) = _
  have h1 : (BitVec.ofInt 32 (a : Int)).toNat = a := by rw [BitVec.ofInt_natCast, BitVec.toNat_ofNat]; exact Nat.mod_eq_of_lt ha
  have h2 : (BitVec.ofInt 32 (b : Int)).toNat = b := by rw [BitVec.ofInt_natCast, BitVec.toNat_ofNat]; exact Nat.mod_eq_of_lt hb
  rw [BitVec.toNat_xor, h1, h2, IntKind.wrap_u32]
  have := Nat.xor_lt_two_pow ha hb
  omega
theorem bkt_eq (x y : Int) : wrap64 ((bits .xor .u32 (x % 4294967296 * 73856093 % 4294967296) (y % 4294967296 * 19349663 % 4294967296)).tmod 1024) = bktN x y := by
  obtain ⟨a, ha, la⟩ := to_nat32 (x % 4294967296 * 73856093)
  obtain ⟨b, hb, lb⟩ := to_nat32 (y % 4294967296 * 19349663)
  unfold bktN
  rw [ha, hb, xor_u32 a b la lb, Int.toNat_natCast, Int.toNat_natCast]
  generalize a ^^^ b = q
  have : ((q : Int)).tmod 1024 = (q : Int) % 1024 := rfl
  rw [this]
  unfold wrap64
  omega
abbrev PeB (x y c : Int) : Prop := ∀ w, Fac w → Calls Tryd.prog 49 #[.agg #[.int .i32 x, .int .i32 y]] w fun e w' => e = .returned (.int .i64 c) ∧ Bel w w'
set_option maxRecDepth 100000 in
set_option maxHeartbeats 2000000 in
theorem peb (x y : Int) : PeB x y (bktN x y) := fun w F0 => by
  go_enter Tryd.func49, Tryd.ntmps49
  go_wp2_with fail
  generalize hW : World.alloc w _ = W1
  have gg : Bel w W1 := by rw [← hW]; exact (bel_more (Below.refl _ _) _)
  have f0 := bel_all gg F0.x
  have f1 := bel_all gg F0.y
  have p0 : W1.cell? ⟨w.heap.size, 0, none⟩ = some (.int .i32 x) := by rw [← hW]; (repeat (first | rw [World.cell?_drew] | rw [World.cell?_alloc_past _ _ _ (by first | (simp; done) | (simp; omega))])); rw [World.cell?_alloc_at _ _ _ _ (by simp)]; rfl
  have p1 : W1.cell? ⟨w.heap.size, 1, none⟩ = some (.int .i32 y) := by rw [← hW]; (repeat (first | rw [World.cell?_drew] | rw [World.cell?_alloc_past _ _ _ (by first | (simp; done) | (simp; omega))])); rw [World.cell?_alloc_at _ _ _ _ (by simp)]; rfl
  clear hW
  go_quiet (fail)
  go_wp2_with fail
  go_ret
  exact ⟨by rw [bkt_eq]; rfl, ⟨gg.os, gg.tape, gg.output, gg.size, gg.block⟩⟩
end Go.Proofs.YtnmnbogjnjbopaaDoor
end

section
/-
  Package cell: All: the iterator over a box's cells, and what is collected from it.
-/
namespace Go.Proofs.YtnmnbogjnjbopaaDoor
open Go.RowKit Go.Lib Go.Shelf

attribute [local go_sem] Oper.semAt_some

theorem LKp.alloc {Bx : Nat} {T : TypeId} (W : World) (o : Obj) : LKp Bx T W (W.alloc o) := ⟨by simp, fun v hv => ⟨v, hv.alloc o, fun _ e => .inl e, fun k u _ _ ho _ => (Below.heap_alloc _ _ k (Array.getElem?_eq_some_iff.1 ho).1).trans ho⟩⟩
/-- Between two rounds: the iterator's two cells are as they were. -/
def Live (Bx lo hi : Nat) (p q u v : Int) (W : World) : Prop := Apt Bx 109 [lo, hi] W ∧ W.cell? ⟨lo, 0, none⟩ = some (.int .i32 p) ∧ W.cell? ⟨lo, 1, none⟩ = some (.int .i32 q) ∧ W.cell? ⟨hi, 0, none⟩ = some (.int .i32 u) ∧ W.cell? ⟨hi, 1, none⟩ = some (.int .i32 v)
theorem Live.next {Bx lo hi : Nat} {p q u v : Int} {W W' : World} (h : Live Bx lo hi p q u v W) (k : LKp Bx 109 W W') : Live Bx lo hi p q u v W' :=
  ⟨h.1.next k, h.1.cell k (by simp) h.2.1, h.1.cell k (by simp) h.2.2.1, h.1.cell k (by simp) h.2.2.2.1, h.1.cell k (by simp) h.2.2.2.2⟩
abbrev encC (c : Int × Int) : Array Value := #[.agg #[.int .i32 c.1, .int .i32 c.2]]

/-- What cells makes: a function over three boxes of its own. -/
theorem pcells (xa ya za ta p q u v : Int) (z : Bool) (S1 : Hid (PeS xa ya za ta p q u v z)) (w : World) :
    Calls Tryd.prog 79 #[.agg #[.int .i32 xa, .int .i32 ya, .int .i32 za, .int .i32 ta]] w fun e w' => ∃ Bo Bl Bh, e = .returned (.func (.func 102) #[] #[.pointer (some ⟨Bo, 0, none⟩), .pointer (some ⟨Bl, 0, none⟩), .pointer (some ⟨Bh, 0, none⟩)]) ∧ Bel w w'
      ∧ (w.heap.size ≤ Bl ∧ Bl < w'.heap.size) ∧ (w.heap.size ≤ Bh ∧ Bh < w'.heap.size) ∧ w'.cell? ⟨Bo, 0, none⟩ = some (.bool z) ∧ w'.cell? ⟨Bl, 0, none⟩ = some (.int .i32 p) ∧ w'.cell? ⟨Bl, 1, none⟩ = some (.int .i32 q) ∧ w'.cell? ⟨Bh, 0, none⟩ = some (.int .i32 u) ∧ w'.cell? ⟨Bh, 1, none⟩ = some (.int .i32 v) := by
  go_enter Tryd.func79, Tryd.ntmps79
  go_wp2_with (first
    | ((with_reducible refine (S1.out _).mono ?_); rintro e w1 ⟨rfl, g1⟩
       have gg := bel_next (bel_more (Below.refl _ _) _) g1))
  go_ret
  have hs : w.heap.size ≤ w1.heap.size := by have := g1.size; simp at this; omega
  exact ⟨_, _, _, rfl, bel_more (bel_more (bel_more gg _) _) _, ⟨hs, by simp; omega⟩, ⟨by omega, by simp⟩, by (repeat (first | rw [World.cell?_drew] | rw [World.cell?_alloc_past _ _ _ (by first | (simp; done) | (simp; omega))])); rw [World.cell?_alloc_at _ _ _ _ (by simp)]; rfl, by (repeat (first | rw [World.cell?_drew] | rw [World.cell?_alloc_past _ _ _ (by first | (simp; done) | (simp; omega))])); rw [World.cell?_alloc_at _ _ _ _ (by simp)]; rfl, by (repeat (first | rw [World.cell?_drew] | rw [World.cell?_alloc_past _ _ _ (by first | (simp; done) | (simp; omega))])); rw [World.cell?_alloc_at _ _ _ _ (by simp)]; rfl, by (repeat (first | rw [World.cell?_drew] | rw [World.cell?_alloc_past _ _ _ (by first | (simp; done) | (simp; omega))])); rw [World.cell?_alloc_at _ _ _ _ (by simp)]; rfl, by (repeat (first | rw [World.cell?_drew] | rw [World.cell?_alloc_past _ _ _ (by first | (simp; done) | (simp; omega))])); rw [World.cell?_alloc_at _ _ _ _ (by simp)]; rfl⟩

set_option maxRecDepth 100000 in
set_option maxHeartbeats 2000000 in
theorem peach_in (n : Nat) (_hn : 1 ≤ n) (l Bx Bo Bl Bh : Nat) (p q u v : Int) (nc nr : Nat) (hu : Hid (u = p + nc - 1)) (hv : Hid (v = q + nr - 1)) (hp : -512 ≤ p) (hq : -512 ≤ q) (hu2 : u ≤ 511) (hv2 : v ≤ 511)
    (J Jx : List (Int × Int) → World → Prop) (W : World)
    (hY : ∀ pre x W1, J pre W1 → pre.length < nr * nc → YieldAt Fence.wide (n - 1) Tryd.prog l (encC x) W1 fun e W' => (e = .returned (.bool true) ∧ J (pre ++ [x]) W' ∧ LKp Bx 109 W1 W') ∨ (e = .returned (.bool false) ∧ Jx (pre ++ [x]) W'))
    (o0 : W.cell? ⟨Bo, 0, none⟩ = some (.bool true)) (hlive : Live Bx Bl Bh p q u v W) (h0 : J [] W) :
    CallsIn Fence.wide n Tryd.prog 102 #[.func (.yield l) #[] #[], .pointer (some ⟨Bo, 0, none⟩), .pointer (some ⟨Bl, 0, none⟩), .pointer (some ⟨Bh, 0, none⟩)] W fun e W' => (∃ v, e = .returned v) ∧ ((∃ xs, xs = allC p q nc nr ∧ J xs W') ∨ (∃ pre : List (Int × Int), True ∧ Jx pre W')) := by
  refine callsIn_of_wp Tryd.func102 rfl trivial ?_ rfl
  simp only [Tryd.ntmps102, List.size_toArray, List.length_cons, List.length_nil, Nat.reduceAdd, Nat.reduceSub, Array.replicate_succ, Array.replicate_zero, List.push_toArray, List.append_toArray, List.nil_append, List.cons_append]
  have HLI := Lib.hid hlive
  have HJ2 := Lib.hid h0
  have HY := Lib.hid hY
  obtain ⟨_, l0, l1, h2, h3⟩ := hlive
  gi_wp2
  clear o0 h0 hY l0 l1 h2 h3
  gi_loopw [5, 6] (fun y _ wr => ∃ j : Nat, j ≤ nr ∧ y = .int .i32 (q + j) ∧ Hid (J (allC p q nc j) wr) ∧ Hid (Live Bx Bl Bh p q u v wr)) (fun y _ _ => nr - (RowKit.intOf y - q).toNat)
  case atStart => exact ⟨0, Nat.zero_le _, by simp, HJ2, HLI⟩
  case round =>
    obtain ⟨j, hj, rfl, HJ, HL⟩ := hrel
    obtain ⟨_, l0, l1, h2, h3⟩ := HL.out
    by_cases hlt : j < nr
    · have hle : q + (j : Int) ≤ v := by have := hv.out; omega
      gi_wp2
      gi_loopw [6] (fun x wr => ∃ i : Nat, i ≤ nc ∧ x = .int .i32 (p + i) ∧ Hid (J (allC p q nc j ++ rowC p (q + j) i) wr) ∧ Hid (Live Bx Bl Bh p q u v wr)) (fun x _ => nc - (RowKit.intOf x - p).toNat)
      case atStart => exact ⟨0, Nat.zero_le _, by simp, by rw [rowC_zero, List.append_nil]; exact HJ, HL⟩
      case round =>
        obtain ⟨i, hi, rfl, HI2, HL2⟩ := hrel
        clear l0 l1 h2 h3
        obtain ⟨_, l0, l1, h2, h3⟩ := HL2.out
        by_cases hlt2 : i < nc
        · have hle2 : p + (i : Int) ≤ u := by have := hu.out; omega
          have ei : IntKind.i32.wrap (p + (i : Int) + 1) = p + ((i + 1 : Nat) : Int) := by have := hu.out; rw [IntKind.wrap_i32]; omega
          have hlen : (allC p q nc j ++ rowC p (q + j) i).length < nr * nc := by
            rw [List.length_append, allC_len, rowC_len]
            have := Nat.mul_le_mul_right nc (show j + 1 ≤ nr by omega)
            rw [Nat.succ_mul] at this
            omega
          obtain ⟨fn, tmps, assign, body, hy, hR⟩ := HY.out _ (p + (i : Int), q + (j : Int)) wr HI2.out hlen
          have HR := Lib.hid hR
          clear hR hlen
          gi_wp2
          refine HR.out.mono ?_
          rintro e W3 (⟨rfl, hJ3, hk3⟩ | ⟨rfl, hJx3⟩)
          · have HJ3 := Lib.hid hJ3
            have HL3 := Lib.hid (HL2.out.next hk3)
            clear hJ3 hk3 hy HR
            gi_wp2
            go_roundw
            case rel => exact ⟨i + 1, by omega, rfl, by rw [rowC_succ, ← List.append_assoc]; exact HJ3, HL3⟩
            case measure => simp [RowKit.intOf]; omega
          · gi_wp2
            refine bodyPost_ret (results_none rfl _ _ _) rfl ?_
            exact ⟨⟨_, rfl⟩, .inr ⟨_, trivial, hJx3⟩⟩
        · have hle2 : ¬ p + (i : Int) ≤ u := by have := hu.out; omega
          obtain rfl : i = nc := by omega
          have ej : IntKind.i32.wrap (q + (j : Int) + 1) = q + ((j + 1 : Nat) : Int) := by have := hv.out; rw [IntKind.wrap_i32]; omega
          have HM := HI2
          rw [← allC_succ] at HM
          gi_wp2
          go_roundw
          case rel => exact ⟨j + 1, by omega, rfl, HM, HL2⟩
          case measure => simp [RowKit.intOf]; omega
    · have hle : ¬ q + (j : Int) ≤ v := by have := hv.out; omega
      obtain rfl : j = nr := by omega
      gi_wp2
      go_end0
      first | exact ⟨⟨_, rfl⟩, .inl ⟨_, rfl, HJ.out⟩⟩ | exact ⟨⟨_, rfl⟩, .inl HJ.out⟩

set_option maxRecDepth 100000 in
set_option maxHeartbeats 2000000 in
theorem peach_no (n : Nat) (_hn : 1 ≤ n) (l Bo Bl Bh : Nat) (J Jx : List (Int × Int) → World → Prop) (W : World) (o0 : W.cell? ⟨Bo, 0, none⟩ = some (.bool false)) (h0 : J [] W) :
    CallsIn Fence.wide n Tryd.prog 102 #[.func (.yield l) #[] #[], .pointer (some ⟨Bo, 0, none⟩), .pointer (some ⟨Bl, 0, none⟩), .pointer (some ⟨Bh, 0, none⟩)] W fun e W' => (∃ v, e = .returned v) ∧ ((∃ xs, xs = [] ∧ J xs W') ∨ (∃ pre : List (Int × Int), True ∧ Jx pre W')) := by
  refine callsIn_of_wp Tryd.func102 rfl trivial ?_ rfl
  simp only [Tryd.ntmps102, List.size_toArray, List.length_cons, List.length_nil, Nat.reduceAdd, Nat.reduceSub, Array.replicate_succ, Array.replicate_zero, List.push_toArray, List.append_toArray, List.nil_append, List.cons_append]
  gi_wp2
  refine bodyPost_ret (results_none rfl _ _ _) rfl ?_
  exact ⟨⟨_, rfl⟩, .inl ⟨_, rfl, h0⟩⟩

/-- What All asks of the iterator over a box whose cells are L. -/
abbrev Stops (Bx Bo Bl Bh : Nat) (L : List (Int × Int)) (w : World) : Prop := SeqStopsK Fence.wide 4 Tryd.prog 102 #[.pointer (some ⟨Bo, 0, none⟩), .pointer (some ⟨Bl, 0, none⟩), .pointer (some ⟨Bh, 0, none⟩)] encC (LKp Bx 109) (fun xs => xs = L) (fun _ => True) L.length w
theorem info_ceell : (Tryd.prog.info? 92).map (fun i => (i.zero, i.size, i.bytes)) = some (some (.agg #[.int .i32 0, .int .i32 0]), 2, 8) := by kernel_rfl

set_option maxRecDepth 100000 in
set_option maxHeartbeats 4000000 in
theorem pal_walk (xa ya za ta p q u v : Int) (z : Bool) (S1 : Hid (PeS xa ya za ta p q u v z)) (L : List (Int × Int)) (hL : L.length ≤ 1000000)
    (HS : ∀ W Bx Bo Bl Bh, Boxed W Bx 109 (.slice none 0 0) → Bl ≠ Bx → Bh ≠ Bx → Bl < W.heap.size → Bh < W.heap.size → W.cell? ⟨Bo, 0, none⟩ = some (.bool z) → W.cell? ⟨Bl, 0, none⟩ = some (.int .i32 p) → W.cell? ⟨Bl, 1, none⟩ = some (.int .i32 q) → W.cell? ⟨Bh, 0, none⟩ = some (.int .i32 u) → W.cell? ⟨Bh, 1, none⟩ = some (.int .i32 v) → Stops Bx Bo Bl Bh L W) (w : World) :
    Calls Tryd.prog 62 #[.agg #[.int .i32 xa, .int .i32 ya, .int .i32 za, .int .i32 ta]] w fun e w' => ∃ v, e = .returned v ∧ w'.ownsRow w.heap.size 92 2 v L.length (L.flatMap cv) ∧ Below w.heap.size w w' := by
  have PE := Lib.hid (pcells xa ya za ta p q u v z S1)
  refine (callsIn_wide (n := 5)).1 ?_
  refine callsIn_of_wp_marks Tryd.func62 rfl trivial ?_ rfl
  simp only [Tryd.ntmps62, List.size_toArray, List.length_cons, List.length_nil, Nat.reduceAdd, Nat.reduceSub, Array.replicate_succ, Array.replicate_zero, List.push_toArray, List.append_toArray, List.nil_append, List.cons_append]
  gi_wp2_with (refine ⟨trivial, ?_⟩; gi_at_call 79; refine (callsIn_wide.2 (PE.out _)).mono ?_; rintro e W0 ⟨Bo, Bl, Bh, rfl, g0, ⟨nl1, nl2⟩, ⟨nh1, nh2⟩, c0, c1, c2, c3, c4⟩)
  have hB0 : Below w.heap.size w W0 := bel_next (bel_more (bel_more (Below.refl _ _) _) _) g0
  have hsz : w.heap.size + 2 ≤ W0.heap.size := by have := g0.size; simp at this; omega
  have bL : Boxed W0 (w.heap.size + 1) 109 (.slice none 0 0) := by
    have := Boxed.new (w.alloc (.cells #[.int .i32 xa, .int .i32 ya, .int .i32 za, .int .i32 ta] 60)) 109 (.slice none 0 0)
    rw [World.size_alloc] at this
    exact (g0.block _ (by simp)).trans this
  have nl3 : w.heap.size + 2 ≤ Bl := by simpa using nl1
  have nh3 : w.heap.size + 2 ≤ Bh := by simpa using nh1
  have ST : Stops (w.heap.size + 1) Bo Bl Bh L W0 := HS W0 _ _ _ _ bL (by omega) (by omega) nl2 nh2 c0 c1 c2 c3 c4
  clear HS c0 c1 c2 c3 c4
  refine wpIn_rangeFunc_ownH rfl (by decide) (gf := 102) (lb := #[.pointer (some ⟨Bo, 0, none⟩), .pointer (some ⟨Bl, 0, none⟩), .pointer (some ⟨Bh, 0, none⟩)]) rfl trivial (enters_of Tryd.func102 (by kernel_rfl) rfl)
    ST LKp.trans (fun W l o o' a b c d => LKp.turn (w := W0) W l o o' a b c d) (Below.refl _ _) (fun _ => rfl)
    (fun (pre : List (Int × Int)) W => (∃ v, Boxed W (w.heap.size + 1) 109 v ∧ W.ownsRow w.heap.size 92 2 v pre.length (pre.flatMap cv) ∧ True) ∧ Below w.heap.size w W)
    (fun _ _ _ => False)
    (OwnFrom.and (Own.from (holdsRow_own w.heap.size (w.heap.size + 1) 109 92 2 (fun (pre : List (Int × Int)) => pre.length) (fun pre => pre.flatMap cv) (fun _ _ => True)) _) (ownFrom_below (Nat.le_refl _) (by omega)))
    (fun _ _ _ _ _ hs _ _ => hs)
    ⟨⟨_, bL, World.ownsRow_nil _ _ _ _, trivial⟩, hB0⟩
    (fun x a' W => ∃ Bc, W.cell? ⟨Bc, 0, none⟩ = some (.int .i32 x.1) ∧ W.cell? ⟨Bc, 1, none⟩ = some (.int .i32 x.2) ∧ a' = { tmps := #[.agg #[.int .i32 xa, .int .i32 ya, .int .i32 za, .int .i32 ta], .pointer (some ⟨w.heap.size, 0, none⟩), .slice none 0 0, .pointer (some ⟨w.heap.size + 1, 0, none⟩), .pointer (some ⟨Bc, 0, none⟩), .agg #[.int .i32 xa, .int .i32 ya, .int .i32 za, .int .i32 ta], .func (.func 102) #[] #[.pointer (some ⟨Bo, 0, none⟩), .pointer (some ⟨Bl, 0, none⟩), .pointer (some ⟨Bh, 0, none⟩)], .agg #[.int .i32 x.1, .int .i32 x.2], undef, undef, undef, undef, undef], defers := [] })
    (fun x a' s W W' row hs hg hr => by
      obtain ⟨Bc, h1, h2, h3⟩ := hs
      exact ⟨Bc, cell_kept h1 hg (fun r e => (hr r e).2), cell_kept h2 hg (fun r e => (hr r e).2), h3⟩)
    ?assign ?body ?done ?stop
  case assign =>
    rintro l pre x W K ⟨⟨v, hv, hrow, _⟩, hB⟩ hK
    obtain ⟨x0, x1⟩ := x
    gi_wp2
    exact hK _ _ ((KeepsOthers.alloc _ _).from _) (LKp.alloc _ _) ⟨⟨v, hv.alloc _, hrow.alloc _, trivial⟩, hB.alloc hB.size _⟩ ⟨W.heap.size, by rw [World.cell?_alloc_at _ _ _ _ (by simp)]; rfl, by rw [World.cell?_alloc_at _ _ _ _ (by simp)]; rfl, rfl⟩
  case body =>
    rintro l pre x a' W hl ⟨r, hr⟩ ⟨⟨v, hv, hrow, _⟩, hB⟩ ⟨Bc, c0, c1, rfl⟩ hlt
    obtain ⟨x0, x1⟩ := x
    have hc := hv.cell
    gi_wp2_with (gi_at_builtin; refine wpListIn_app cv 2 cv_len cv_one rfl _ _ 109 rfl 92 _ 8 Tryd.underlying109 info_ceell rfl (by decide) w.heap.size _ _ pre (x0, x1) rfl hrow _ (by first | rfl | simp) rfl _ rfl (by unfold maxLen; omega) (by omega) hB.size ?_; intro g cap w1 hown hgrow hfr; obtain ⟨hv1, hv2, hr2, hk2, hb2⟩ := hv.appended (by decide) hrow hB.size (by omega) hown hgrow; have hc1 := hv1.cell; have hf1 := hv1.frozen)
    have hf2 : ∀ g1, (Value.slice (some ⟨g, 0, none⟩) (pre.length + 1) cap).ownBlock = some g1 → v.ownBlock = some g1 ∨ W.heap.size ≤ g1 := fun g1 e => by
      obtain rfl : g = g1 := by simpa [Value.ownBlock] using e
      exact hfr
    exact ⟨hk2.from _, LKp.appended hv hgrow hf2 hv2, ⟨⟨_, hv2, by first | exact hr2 | exact ⟨hr2, trivial⟩⟩, hB.trans hb2⟩⟩
  case done =>
    rintro D ys W hD rfl ⟨⟨v, hv, hrow, _⟩, hB⟩ hK
    have hc := hv.cell
    gi_wp2
    refine ⟨by simp, .inl ⟨_, _, rfl, run_takeDeferred hK, ?_⟩⟩
    exact ⟨_, results_tmp rfl _ _ _, v, rfl, ownsRow_putObj hrow _ hK rfl, hB.trans (belowK_b (w := w) (Nat.le_refl _) W D _ _ (by omega) hK rfl rfl)⟩
  case stop =>
    rintro D c pre W _ _ h _
    exact h.elim

theorem keepall {W W1 : World} (h : Below W.heap.size W W1) {Bx : Nat} {T : TypeId} {v : Value} (hb : Boxed W Bx T v) : Boxed W1 Bx T v := (h.block Bx hb.lt).trans hb
/-- All of a box that is not empty. -/
theorem pal (xa ya za ta p q u v : Int) (nc nr : Nat) (S1 : Hid (PeS xa ya za ta p q u v true)) (hu : u = p + nc - 1) (hv : v = q + nr - 1) (hp : -512 ≤ p) (hq : -512 ≤ q) (hu2 : u ≤ 511) (hv2 : v ≤ 511) (hn : nr * nc ≤ 1000000) (w : World) :
    Calls Tryd.prog 62 #[.agg #[.int .i32 xa, .int .i32 ya, .int .i32 za, .int .i32 ta]] w fun e w' => ∃ v, e = .returned v ∧ w'.ownsRow w.heap.size 92 2 v (allC p q nc nr).length ((allC p q nc nr).flatMap cv) ∧ Below w.heap.size w w' :=
  pal_walk xa ya za ta p q u v true S1 (allC p q nc nr) (by rw [allC_len]; exact hn) (fun W Bx Bo Bl Bh hb n1 n2 m1 m2 c0 c1 c2 c3 c4 l J Jx W1 hW _ _ hY h0 =>
    peach_in 4 (by decide) l Bx Bo Bl Bh p q u v nc nr (Lib.hid hu) (Lib.hid hv) hp hq hu2 hv2 J Jx W1 (by rw [allC_len] at hY; exact hY)
      (bel_all hW c0) ⟨⟨_, keepall hW hb, fun b hm => by
        simp only [List.mem_cons, List.not_mem_nil, or_false] at hm
        rcases hm with rfl | rfl
        · exact ⟨n1, by simp [Value.ownBlock], Nat.lt_of_lt_of_le m1 hW.size⟩
        · exact ⟨n2, by simp [Value.ownBlock], Nat.lt_of_lt_of_le m2 hW.size⟩⟩, bel_all hW c1, bel_all hW c2, bel_all hW c3, bel_all hW c4⟩ h0) w
/-- All of an empty box. -/
theorem pal_no (xa ya za ta : Int) (S1 : Hid (PeS xa ya za ta 0 0 0 0 false)) (w : World) :
    Calls Tryd.prog 62 #[.agg #[.int .i32 xa, .int .i32 ya, .int .i32 za, .int .i32 ta]] w fun e w' => ∃ v, e = .returned v ∧ w'.ownsRow w.heap.size 92 2 v ([] : List (Int × Int)).length (([] : List (Int × Int)).flatMap cv) ∧ Below w.heap.size w w' :=
  pal_walk xa ya za ta 0 0 0 0 false S1 [] (by decide) (fun W Bx Bo Bl Bh hb n1 n2 m1 m2 c0 c1 c2 c3 c4 l J Jx W1 hW _ _ hY h0 =>
    peach_no 4 (by decide) l Bo Bl Bh J Jx W1 (bel_all hW c0) h0) w
end Go.Proofs.YtnmnbogjnjbopaaDoor
end
