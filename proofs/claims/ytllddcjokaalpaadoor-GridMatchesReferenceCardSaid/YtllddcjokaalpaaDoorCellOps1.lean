/-
  Package cell: its functions but All.
-/
import Derived.Test.YtllddcjokaalpaaDoorCellCon
import Derived.Deep.DeepCutAuto
import Derived.StillTailTactics
import Derived.Deep.QuietTactic
import Derived.BigQuiet
namespace Go.Proofs.YtllddcjokaalpaaDoor
open Go.RowKit Go.Lib

abbrev PeO (x y p q : Int) : Prop := ∀ w, Calls Tryd.prog 32 #[.agg #[.int .i32 x, .int .i32 y]] w fun e w' => e = .returned (.agg #[.int .i32 p, .int .i32 q]) ∧ Bel w w'
set_option maxRecDepth 100000 in
set_option maxHeartbeats 1000000 in
theorem peo (x y : Int) (hx : In3 x) (hy : In3 y) : PeO x y (colN x) (colN y) := fun w => by
  have c1 := colN_in hx
  have c2 := colN_in hy
  unfold colN at *
  have e1 : IntKind.i32.wrap (x / 4194304) = x / 4194304 := by rw [IntKind.wrap_i32]; omega
  have e2 : IntKind.i32.wrap (y / 4194304) = y / 4194304 := by rw [IntKind.wrap_i32]; omega
  clear c1 c2 hx hy
  go_enter Tryd.func32, Tryd.ntmps32
  go_wp2_with fail
  exact bodyPost_ret (v := .agg #[.int .i32 (x / 4194304), .int .i32 (y / 4194304)]) (by simp [results, Tryd.results32, go_sem]) rfl ⟨rfl, (bel_more (bel_more (Below.refl _ _) _) _)⟩
abbrev PeE (xa ya za ta : Int) (z : Bool) : Prop := ∀ w, Calls Tryd.prog 71 #[.agg #[.int .i32 xa, .int .i32 ya, .int .i32 za, .int .i32 ta]] w fun e w' => e = .returned (.bool z) ∧ Bel w w'
theorem pee (xa ya za ta : Int) (z : Bool) (hz : empB xa ya za ta = z) : PeE xa ya za ta z := fun w => by
  by_cases g0 : za < xa
  · have d0 : decide (za < xa) = true := decide_eq_true g0
    obtain rfl : true = z := by rw [← hz]; unfold empB; exact (decide_eq_true (by omega)).symm
    clear hz
    go_enter Tryd.func71, Tryd.ntmps71
    go_wp2
    go_ret
    exact ⟨rfl, (bel_more (Below.refl _ _) _)⟩
  have d0 : decide (za < xa) = false := decide_eq_false g0
  by_cases g1 : ta < ya
  · have d1 : decide (ta < ya) = true := decide_eq_true g1
    obtain rfl : true = z := by rw [← hz]; unfold empB; exact (decide_eq_true (by omega)).symm
    clear hz
    go_enter Tryd.func71, Tryd.ntmps71
    go_wp2
    go_ret
    exact ⟨rfl, (bel_more (Below.refl _ _) _)⟩
  have d1 : decide (ta < ya) = false := decide_eq_false g1
  obtain rfl : false = z := by rw [← hz]; unfold empB; exact (decide_eq_false (by omega)).symm
  clear hz
  go_enter Tryd.func71, Tryd.ntmps71
  go_wp2
  go_ret
  exact ⟨rfl, (bel_more (Below.refl _ _) _)⟩
abbrev PeS (xa ya za ta p q u v : Int) (z : Bool) : Prop := ∀ w, Calls Tryd.prog 60 #[.agg #[.int .i32 xa, .int .i32 ya, .int .i32 za, .int .i32 ta]] w fun e w' => e = .returned (.tuple #[.agg #[.int .i32 p, .int .i32 q], .agg #[.int .i32 u, .int .i32 v], .bool z]) ∧ Bel w w'
theorem pes_no (xa ya za ta : Int) (E1 : Hid (PeE xa ya za ta true)) : PeS xa ya za ta 0 0 0 0 false := fun w => by
  go_enter Tryd.func60, Tryd.ntmps60
  go_wp2_with (first
    | ((with_reducible refine (E1.out _).mono ?_); rintro e w1 ⟨rfl, g1⟩
       have i0 := bel_all g1 (a := ⟨w.heap.size, 0, none⟩) (v := .int .i32 xa) (by (repeat (first | rw [World.cell?_drew] | rw [World.cell?_alloc_past _ _ _ (by first | (simp; done) | (simp; omega))])); rw [World.cell?_alloc_at _ _ _ _ (by simp)]; rfl)
       have i1 := bel_all g1 (a := ⟨w.heap.size, 1, none⟩) (v := .int .i32 ya) (by (repeat (first | rw [World.cell?_drew] | rw [World.cell?_alloc_past _ _ _ (by first | (simp; done) | (simp; omega))])); rw [World.cell?_alloc_at _ _ _ _ (by simp)]; rfl)
       have i2 := bel_all g1 (a := ⟨w.heap.size, 2, none⟩) (v := .int .i32 za) (by (repeat (first | rw [World.cell?_drew] | rw [World.cell?_alloc_past _ _ _ (by first | (simp; done) | (simp; omega))])); rw [World.cell?_alloc_at _ _ _ _ (by simp)]; rfl)
       have i3 := bel_all g1 (a := ⟨w.heap.size, 3, none⟩) (v := .int .i32 ta) (by (repeat (first | rw [World.cell?_drew] | rw [World.cell?_alloc_past _ _ _ (by first | (simp; done) | (simp; omega))])); rw [World.cell?_alloc_at _ _ _ _ (by simp)]; rfl)
       have l0 := bel_all g1 (a := ⟨w.heap.size + 1, 0, none⟩) (v := .int .i32 0) (by (repeat (first | rw [World.cell?_drew] | rw [World.cell?_alloc_past _ _ _ (by first | (simp; done) | (simp; omega))])); rw [World.cell?_alloc_at _ _ _ _ (by simp)]; rfl)
       have l1 := bel_all g1 (a := ⟨w.heap.size + 1, 1, none⟩) (v := .int .i32 0) (by (repeat (first | rw [World.cell?_drew] | rw [World.cell?_alloc_past _ _ _ (by first | (simp; done) | (simp; omega))])); rw [World.cell?_alloc_at _ _ _ _ (by simp)]; rfl)
       have h0 := bel_all g1 (a := ⟨w.heap.size + 1 + 1, 0, none⟩) (v := .int .i32 0) (by (repeat (first | rw [World.cell?_drew] | rw [World.cell?_alloc_past _ _ _ (by first | (simp; done) | (simp; omega))])); rw [World.cell?_alloc_at _ _ _ _ (by simp)]; rfl)
       have h1 := bel_all g1 (a := ⟨w.heap.size + 1 + 1, 1, none⟩) (v := .int .i32 0) (by (repeat (first | rw [World.cell?_drew] | rw [World.cell?_alloc_past _ _ _ (by first | (simp; done) | (simp; omega))])); rw [World.cell?_alloc_at _ _ _ _ (by simp)]; rfl)
       have gg := bel_next (bel_more (bel_more (bel_more (Below.refl _ _) _) _) _) g1
       have fl0 := bel_frozen g1 (b := w.heap.size + 1) (o := 0) (by (repeat (first | rw [World.frozen?_drew] | rw [World.frozen?_alloc_past _ _ _ (by first | (simp; done) | (simp; omega))])); rw [World.frozen?_alloc_at _ _ _ _ (by simp)]) (by first | (simp; done) | (simp; omega))
       have fl1 := bel_frozen g1 (b := w.heap.size + 1) (o := 1) (by (repeat (first | rw [World.frozen?_drew] | rw [World.frozen?_alloc_past _ _ _ (by first | (simp; done) | (simp; omega))])); rw [World.frozen?_alloc_at _ _ _ _ (by simp)]) (by first | (simp; done) | (simp; omega))
       have fh0 := bel_frozen g1 (b := w.heap.size + 1 + 1) (o := 0) (by (repeat (first | rw [World.frozen?_drew] | rw [World.frozen?_alloc_past _ _ _ (by first | (simp; done) | (simp; omega))])); rw [World.frozen?_alloc_at _ _ _ _ (by simp)]) (by first | (simp; done) | (simp; omega))
       have fh1 := bel_frozen g1 (b := w.heap.size + 1 + 1) (o := 1) (by (repeat (first | rw [World.frozen?_drew] | rw [World.frozen?_alloc_past _ _ _ (by first | (simp; done) | (simp; omega))])); rw [World.frozen?_alloc_at _ _ _ _ (by simp)]) (by first | (simp; done) | (simp; omega))
       have zi_w1 : w.heap.size < w1.heap.size := World.block_lt_of_cell? _ _ i0
       have zl_w1 : w.heap.size + 1 < w1.heap.size := World.block_lt_of_cell? _ _ l0
       have zh_w1 : w.heap.size + 1 + 1 < w1.heap.size := World.block_lt_of_cell? _ _ h0))
  exact bodyPost_ret (v := .tuple #[.agg #[.int .i32 0, .int .i32 0], .agg #[.int .i32 0, .int .i32 0], .bool false]) (by simp [results, Tryd.results60, go_sem, l0, l1, h0, h1]) rfl ⟨rfl, (bel_set (bel_set (bel_set (bel_set gg (by dsimp only; omega) _) (by dsimp only; omega) _) (by dsimp only; omega) _) (by dsimp only; omega) _)⟩
set_option maxRecDepth 100000 in
set_option maxHeartbeats 2000000 in
theorem pes (xa ya za ta p q u v : Int) (E1 : Hid (PeE xa ya za ta false)) (C1 : Hid (PeO xa ya p q)) (C2 : Hid (PeO za ta u v)) : PeS xa ya za ta p q u v true := fun w => by
  go_enter Tryd.func60, Tryd.ntmps60
  go_wp2_with (first
    | ((with_reducible refine (E1.out _).mono ?_); rintro e w1 ⟨rfl, g1⟩
       have i0 := bel_all g1 (a := ⟨w.heap.size, 0, none⟩) (v := .int .i32 xa) (by (repeat (first | rw [World.cell?_drew] | rw [World.cell?_alloc_past _ _ _ (by first | (simp; done) | (simp; omega))])); rw [World.cell?_alloc_at _ _ _ _ (by simp)]; rfl)
       have i1 := bel_all g1 (a := ⟨w.heap.size, 1, none⟩) (v := .int .i32 ya) (by (repeat (first | rw [World.cell?_drew] | rw [World.cell?_alloc_past _ _ _ (by first | (simp; done) | (simp; omega))])); rw [World.cell?_alloc_at _ _ _ _ (by simp)]; rfl)
       have i2 := bel_all g1 (a := ⟨w.heap.size, 2, none⟩) (v := .int .i32 za) (by (repeat (first | rw [World.cell?_drew] | rw [World.cell?_alloc_past _ _ _ (by first | (simp; done) | (simp; omega))])); rw [World.cell?_alloc_at _ _ _ _ (by simp)]; rfl)
       have i3 := bel_all g1 (a := ⟨w.heap.size, 3, none⟩) (v := .int .i32 ta) (by (repeat (first | rw [World.cell?_drew] | rw [World.cell?_alloc_past _ _ _ (by first | (simp; done) | (simp; omega))])); rw [World.cell?_alloc_at _ _ _ _ (by simp)]; rfl)
       have gg := bel_next (bel_more (bel_more (bel_more (Below.refl _ _) _) _) _) g1
       have sl0 := bel_some g1 (a := ⟨w.heap.size + 1, 0, none⟩) (by (repeat (first | rw [World.cell?_drew] | rw [World.cell?_alloc_past _ _ _ (by first | (simp; done) | (simp; omega))])); rw [World.cell?_alloc_at _ _ _ _ (by simp)]; rfl)
       have sl1 := bel_some g1 (a := ⟨w.heap.size + 1, 1, none⟩) (by (repeat (first | rw [World.cell?_drew] | rw [World.cell?_alloc_past _ _ _ (by first | (simp; done) | (simp; omega))])); rw [World.cell?_alloc_at _ _ _ _ (by simp)]; rfl)
       have fl0 := bel_froz g1 (a := ⟨w.heap.size + 1, 0, none⟩) (by (repeat (first | rw [World.cell?_drew] | rw [World.cell?_alloc_past _ _ _ (by first | (simp; done) | (simp; omega))])); rw [World.cell?_alloc_at _ _ _ _ (by simp)]; rfl) (by (repeat (first | rw [World.frozen?_drew] | rw [World.frozen?_alloc_past _ _ _ (by first | (simp; done) | (simp; omega))])); rw [World.frozen?_alloc_at _ _ _ _ (by simp)])
       have fl1 := bel_froz g1 (a := ⟨w.heap.size + 1, 1, none⟩) (by (repeat (first | rw [World.cell?_drew] | rw [World.cell?_alloc_past _ _ _ (by first | (simp; done) | (simp; omega))])); rw [World.cell?_alloc_at _ _ _ _ (by simp)]; rfl) (by (repeat (first | rw [World.frozen?_drew] | rw [World.frozen?_alloc_past _ _ _ (by first | (simp; done) | (simp; omega))])); rw [World.frozen?_alloc_at _ _ _ _ (by simp)])
       have sh0 := bel_some g1 (a := ⟨w.heap.size + 1 + 1, 0, none⟩) (by (repeat (first | rw [World.cell?_drew] | rw [World.cell?_alloc_past _ _ _ (by first | (simp; done) | (simp; omega))])); rw [World.cell?_alloc_at _ _ _ _ (by simp)]; rfl)
       have sh1 := bel_some g1 (a := ⟨w.heap.size + 1 + 1, 1, none⟩) (by (repeat (first | rw [World.cell?_drew] | rw [World.cell?_alloc_past _ _ _ (by first | (simp; done) | (simp; omega))])); rw [World.cell?_alloc_at _ _ _ _ (by simp)]; rfl)
       have fh0 := bel_froz g1 (a := ⟨w.heap.size + 1 + 1, 0, none⟩) (by (repeat (first | rw [World.cell?_drew] | rw [World.cell?_alloc_past _ _ _ (by first | (simp; done) | (simp; omega))])); rw [World.cell?_alloc_at _ _ _ _ (by simp)]; rfl) (by (repeat (first | rw [World.frozen?_drew] | rw [World.frozen?_alloc_past _ _ _ (by first | (simp; done) | (simp; omega))])); rw [World.frozen?_alloc_at _ _ _ _ (by simp)])
       have fh1 := bel_froz g1 (a := ⟨w.heap.size + 1 + 1, 1, none⟩) (by (repeat (first | rw [World.cell?_drew] | rw [World.cell?_alloc_past _ _ _ (by first | (simp; done) | (simp; omega))])); rw [World.cell?_alloc_at _ _ _ _ (by simp)]; rfl) (by (repeat (first | rw [World.frozen?_drew] | rw [World.frozen?_alloc_past _ _ _ (by first | (simp; done) | (simp; omega))])); rw [World.frozen?_alloc_at _ _ _ _ (by simp)])
       have zi_w1 : w.heap.size < w1.heap.size := World.block_lt_of_cell? _ _ i0))
  refine wp_region_noPanic ?_
  refine wp_region_held_drew (S := (fun w' => w'.cell? ⟨w.heap.size, 0, none⟩ = some (.int .i32 xa) ∧ w'.cell? ⟨w.heap.size, 1, none⟩ = some (.int .i32 ya) ∧ w'.cell? ⟨w.heap.size, 2, none⟩ = some (.int .i32 za) ∧ w'.cell? ⟨w.heap.size, 3, none⟩ = some (.int .i32 ta) ∧ (w'.cell? ⟨w.heap.size + 1, 0, none⟩).isSome = true ∧ (w'.cell? ⟨w.heap.size + 1, 1, none⟩).isSome = true ∧ w'.frozen? ⟨w.heap.size + 1, 0, none⟩ = false ∧ w'.frozen? ⟨w.heap.size + 1, 1, none⟩ = false ∧ (w'.cell? ⟨w.heap.size + 1 + 1, 0, none⟩).isSome = true ∧ (w'.cell? ⟨w.heap.size + 1 + 1, 1, none⟩).isSome = true ∧ w'.frozen? ⟨w.heap.size + 1 + 1, 0, none⟩ = false ∧ w'.frozen? ⟨w.heap.size + 1 + 1, 1, none⟩ = false ∧ Bel w w')) (by kernel_rfl) (⟨by rw [World.cell?_drew]; exact i0, by rw [World.cell?_drew]; exact i1, by rw [World.cell?_drew]; exact i2, by rw [World.cell?_drew]; exact i3, by rw [World.cell?_drew]; exact sl0, by rw [World.cell?_drew]; exact sl1, by rw [World.frozen?_drew]; exact fl0, by rw [World.frozen?_drew]; exact fl1, by rw [World.cell?_drew]; exact sh0, by rw [World.cell?_drew]; exact sh1, by rw [World.frozen?_drew]; exact fh0, by rw [World.frozen?_drew]; exact fh1, bel_drew gg⟩) (fun hH => ?_)
  refine wpAnyH_take (i := 0) (oi := { dst := some 9, op := Op.fieldAddr 56 (Operand.tmp 1) 0, type := _, pos := _, after := _, guard := none }) (v := ?_) rfl (by kernel_rfl) (by kernel_rfl) (by kernel_rfl) (fun _ _ _ h => h) (Or.inl ⟨by rfl, ?_⟩) hH ?_
  rotate_left
  · (intro w hSw; (try dsimp only at hSw); go_simp; (try with_reducible rfl))
  try simp only [Act.put, List.setIfInBounds_toArray, List.set_cons_zero, List.set_cons_succ]
  refine wpAnyH_take (i := 1) (oi := { dst := some 10, op := Op.load 21 (Operand.tmp 9), type := _, pos := _, after := _, guard := none }) (v := ?_) rfl (by kernel_rfl) (by kernel_rfl) (by kernel_rfl) (fun _ _ _ h => h) (Or.inl ⟨by rfl, ?_⟩) hH ?_
  rotate_left
  · (intro w hSw; (try dsimp only at hSw); go_simp; (try with_reducible rfl))
  try simp only [Act.put, List.setIfInBounds_toArray, List.set_cons_zero, List.set_cons_succ]
  refine wpAnyH_take (i := 2) (oi := { dst := some 11, op := Op.fieldAddr 56 (Operand.tmp 1) 1, type := _, pos := _, after := _, guard := none }) (v := ?_) rfl (by kernel_rfl) (by kernel_rfl) (by kernel_rfl) (fun _ _ _ h => h) (Or.inl ⟨by rfl, ?_⟩) hH ?_
  rotate_left
  · (intro w hSw; (try dsimp only at hSw); go_simp; (try with_reducible rfl))
  try simp only [Act.put, List.setIfInBounds_toArray, List.set_cons_zero, List.set_cons_succ]
  refine wpAnyH_take (i := 3) (oi := { dst := some 12, op := Op.load 21 (Operand.tmp 11), type := _, pos := _, after := _, guard := none }) (v := ?_) rfl (by kernel_rfl) (by kernel_rfl) (by kernel_rfl) (fun _ _ _ h => h) (Or.inl ⟨by rfl, ?_⟩) hH ?_
  rotate_left
  · (intro w hSw; (try dsimp only at hSw); go_simp; (try with_reducible rfl))
  try simp only [Act.put, List.setIfInBounds_toArray, List.set_cons_zero, List.set_cons_succ]
  refine wpAnyH_take (i := 4) (oi := { dst := some 13, op := Op.build 24 #[(0, Operand.tmp 10), (1, Operand.tmp 12)], type := _, pos := _, after := _, guard := none }) (v := ?_) rfl (by kernel_rfl) (by kernel_rfl) (by kernel_rfl) (fun _ _ _ h => h) (Or.inl ⟨by rfl, ?_⟩) hH ?_
  rotate_left
  · (intro w hSw; (try dsimp only at hSw); go_simp; (try with_reducible rfl))
  try simp only [Act.put, List.setIfInBounds_toArray, List.set_cons_zero, List.set_cons_succ]
  refine wpAnyH_take (i := 6) (oi := { dst := some 15, op := Op.fieldAddr 56 (Operand.tmp 1) 2, type := _, pos := _, after := _, guard := none }) (v := ?_) rfl (by kernel_rfl) (by kernel_rfl) (by kernel_rfl) (fun _ _ _ h => h) (Or.inl ⟨by rfl, ?_⟩) hH ?_
  rotate_left
  · (intro w hSw; (try dsimp only at hSw); go_simp; (try with_reducible rfl))
  try simp only [Act.put, List.setIfInBounds_toArray, List.set_cons_zero, List.set_cons_succ]
  refine wpAnyH_take (i := 7) (oi := { dst := some 16, op := Op.load 21 (Operand.tmp 15), type := _, pos := _, after := _, guard := none }) (v := ?_) rfl (by kernel_rfl) (by kernel_rfl) (by kernel_rfl) (fun _ _ _ h => h) (Or.inl ⟨by rfl, ?_⟩) hH ?_
  rotate_left
  · (intro w hSw; (try dsimp only at hSw); go_simp; (try with_reducible rfl))
  try simp only [Act.put, List.setIfInBounds_toArray, List.set_cons_zero, List.set_cons_succ]
  refine wpAnyH_take (i := 8) (oi := { dst := some 17, op := Op.fieldAddr 56 (Operand.tmp 1) 3, type := _, pos := _, after := _, guard := none }) (v := ?_) rfl (by kernel_rfl) (by kernel_rfl) (by kernel_rfl) (fun _ _ _ h => h) (Or.inl ⟨by rfl, ?_⟩) hH ?_
  rotate_left
  · (intro w hSw; (try dsimp only at hSw); go_simp; (try with_reducible rfl))
  try simp only [Act.put, List.setIfInBounds_toArray, List.set_cons_zero, List.set_cons_succ]
  refine wpAnyH_take (i := 9) (oi := { dst := some 18, op := Op.load 21 (Operand.tmp 17), type := _, pos := _, after := _, guard := none }) (v := ?_) rfl (by kernel_rfl) (by kernel_rfl) (by kernel_rfl) (fun _ _ _ h => h) (Or.inl ⟨by rfl, ?_⟩) hH ?_
  rotate_left
  · (intro w hSw; (try dsimp only at hSw); go_simp; (try with_reducible rfl))
  try simp only [Act.put, List.setIfInBounds_toArray, List.set_cons_zero, List.set_cons_succ]
  refine wpAnyH_take (i := 10) (oi := { dst := some 19, op := Op.build 24 #[(0, Operand.tmp 16), (1, Operand.tmp 18)], type := _, pos := _, after := _, guard := none }) (v := ?_) rfl (by kernel_rfl) (by kernel_rfl) (by kernel_rfl) (fun _ _ _ h => h) (Or.inl ⟨by rfl, ?_⟩) hH ?_
  rotate_left
  · (intro w hSw; (try dsimp only at hSw); go_simp; (try with_reducible rfl))
  try simp only [Act.put, List.setIfInBounds_toArray, List.set_cons_zero, List.set_cons_succ]
  refine wpAnyH_ready (rs := [5]) (by kernel_rfl) (by simp) ?_
  refine AllReadyH.cons (o := { dst := some 14, op := Op.call { callee := Callee.value (Operand.func 32), args := #[Operand.tmp 13], argTypes := #[24] }, type := _, pos := _, after := _, guard := none }) rfl (fun K hK => ?_) AllReadyH.nil
  go_simp
  (with_reducible refine (C1.out _).mono ?_); rintro e v3_5 ⟨rfl, g⟩
  refine hK.out _ _ (by (try dsimp only); (go_split_ands; exact ⟨bel_all g (by assumption), bel_all g (by assumption), bel_all g (by assumption), bel_all g (by assumption), bel_some g (by assumption), bel_some g (by assumption), bel_froz g (by assumption) (by assumption), bel_froz g (by assumption) (by assumption), bel_some g (by assumption), bel_some g (by assumption), bel_froz g (by assumption) (by assumption), bel_froz g (by assumption) (by assumption), bel_next (by assumption) g⟩)) (fun hH2 => ?_)
  clear hK K hH; have hH := hH2; clear hH2
  try simp only [Act.put, List.setIfInBounds_toArray, List.set_cons_zero, List.set_cons_succ]
  refine wpAnyH_ready (rs := [11]) (by kernel_rfl) (by simp) ?_
  refine AllReadyH.cons (o := { dst := some 20, op := Op.call { callee := Callee.value (Operand.func 32), args := #[Operand.tmp 19], argTypes := #[24] }, type := _, pos := _, after := _, guard := none }) rfl (fun K hK => ?_) AllReadyH.nil
  go_simp
  (with_reducible refine (C2.out _).mono ?_); rintro e v3_11 ⟨rfl, g⟩
  refine hK.out _ _ (by (try dsimp only); (go_split_ands; exact ⟨bel_all g (by assumption), bel_all g (by assumption), bel_all g (by assumption), bel_all g (by assumption), bel_some g (by assumption), bel_some g (by assumption), bel_froz g (by assumption) (by assumption), bel_froz g (by assumption) (by assumption), bel_some g (by assumption), bel_some g (by assumption), bel_froz g (by assumption) (by assumption), bel_froz g (by assumption) (by assumption), bel_next (by assumption) g⟩)) (fun hH2 => ?_)
  clear hK K hH; have hH := hH2; clear hH2
  try simp only [Act.put, List.setIfInBounds_toArray, List.set_cons_zero, List.set_cons_succ]
  obtain ⟨i0, i1, i2, i3, sl0, sl1, fl0, fl1, sh0, sh1, fh0, fh1, gg⟩ := id hH
  refine wpAnyH_ready (rs := [12]) (by kernel_rfl) (by simp) ?_
  refine AllReadyH.cons (o := { dst := none, op := Op.store 70 (Operand.tmp 2) (Operand.tmp 14), type := _, pos := _, after := _, guard := none }) rfl (fun K hK => ?_) AllReadyH.nil
  obtain ⟨ql0, eql0⟩ := Option.isSome_iff_exists.1 sl0
  obtain ⟨ql1, eql1⟩ := Option.isSome_iff_exists.1 sl1
  obtain ⟨qh0, eqh0⟩ := Option.isSome_iff_exists.1 sh0
  obtain ⟨qh1, eqh1⟩ := Option.isSome_iff_exists.1 sh1
  have bl0 := eql0
  have bl1 := eql1
  have bh0 := eqh0
  have bh1 := eqh1
  go_simp
  refine hK.out _ _ (by (try dsimp only); exact ⟨sset_far (sset_far (i0) (by first | (simp; done) | (simp; omega))) (by first | (simp; done) | (simp; omega)), sset_far (sset_far (i1) (by first | (simp; done) | (simp; omega))) (by first | (simp; done) | (simp; omega)), sset_far (sset_far (i2) (by first | (simp; done) | (simp; omega))) (by first | (simp; done) | (simp; omega)), sset_far (sset_far (i3) (by first | (simp; done) | (simp; omega))) (by first | (simp; done) | (simp; omega)), sset_some _ _ _ (sset_some _ _ _ (sl0)), sset_some _ _ _ (sset_some _ _ _ (sl1)), sset_froz (sset_froz (fl0)), sset_froz (sset_froz (fl1)), sset_some _ _ _ (sset_some _ _ _ (sh0)), sset_some _ _ _ (sset_some _ _ _ (sh1)), sset_froz (sset_froz (fh0)), sset_froz (sset_froz (fh1)), bel_set (bel_set (gg) (by first | (simp; done) | (simp; omega)) _) (by first | (simp; done) | (simp; omega)) _⟩) (fun hH2 => ?_)
  clear hK K hH i0 i1 i2 i3 sl0 sl1 fl0 fl1 sh0 sh1 fh0 fh1 gg eql0 eql1 eqh0 eqh1; have hH := hH2; clear hH2
  try simp only [Act.put, List.setIfInBounds_toArray, List.set_cons_zero, List.set_cons_succ]
  obtain ⟨i0, i1, i2, i3, sl0, sl1, fl0, fl1, sh0, sh1, fh0, fh1, gg⟩ := id hH
  refine wpAnyH_ready (rs := [13]) (by kernel_rfl) (by simp) ?_
  refine AllReadyH.cons (o := { dst := none, op := Op.store 70 (Operand.tmp 3) (Operand.tmp 20), type := _, pos := _, after := _, guard := none }) rfl (fun K hK => ?_) AllReadyH.nil
  obtain ⟨ql0, eql0⟩ := Option.isSome_iff_exists.1 sl0
  obtain ⟨ql1, eql1⟩ := Option.isSome_iff_exists.1 sl1
  obtain ⟨qh0, eqh0⟩ := Option.isSome_iff_exists.1 sh0
  obtain ⟨qh1, eqh1⟩ := Option.isSome_iff_exists.1 sh1
  go_simp
  refine hK.out _ _ (by (try dsimp only); exact ⟨sset_far (sset_far (i0) (by first | (simp; done) | (simp; omega))) (by first | (simp; done) | (simp; omega)), sset_far (sset_far (i1) (by first | (simp; done) | (simp; omega))) (by first | (simp; done) | (simp; omega)), sset_far (sset_far (i2) (by first | (simp; done) | (simp; omega))) (by first | (simp; done) | (simp; omega)), sset_far (sset_far (i3) (by first | (simp; done) | (simp; omega))) (by first | (simp; done) | (simp; omega)), sset_some _ _ _ (sset_some _ _ _ (sl0)), sset_some _ _ _ (sset_some _ _ _ (sl1)), sset_froz (sset_froz (fl0)), sset_froz (sset_froz (fl1)), sset_some _ _ _ (sset_some _ _ _ (sh0)), sset_some _ _ _ (sset_some _ _ _ (sh1)), sset_froz (sset_froz (fh0)), sset_froz (sset_froz (fh1)), bel_set (bel_set (gg) (by first | (simp; done) | (simp; omega)) _) (by first | (simp; done) | (simp; omega)) _⟩) (fun hH2 => ?_)
  clear hK K hH i0 i1 i2 i3 sl0 sl1 fl0 fl1 sh0 sh1 fh0 fh1 gg eql0 eql1 eqh0 eqh1; have hH := hH2; clear hH2
  try simp only [Act.put, List.setIfInBounds_toArray, List.set_cons_zero, List.set_cons_succ]
  refine wpAnyH_take (i := 14) (oi := { dst := some 4, op := Op.assign (Operand.const (Value.bool true)), type := _, pos := _, after := _, guard := none }) (v := ?_) rfl (by kernel_rfl) (by kernel_rfl) (by kernel_rfl) (fun _ _ _ h => h) (Or.inl ⟨by rfl, ?_⟩) hH ?_
  rotate_left
  · (intro w hSw; (try dsimp only at hSw); go_simp; (try with_reducible rfl))
  try simp only [Act.put, List.setIfInBounds_toArray, List.set_cons_zero, List.set_cons_succ]
  refine wpAnyH_done (by kernel_rfl) ?_ _
  refine NoPanic.normal ?_
  clear i0 i1 i2 i3 sl0 sl1 fl0 fl1 sh0 sh1 fh0 fh1 gg
  obtain ⟨i0, i1, i2, i3, sl0, sl1, fl0, fl1, sh0, sh1, fh0, fh1, gg⟩ := hH
  go_wp2_with fail
  exact bodyPost_ret (v := .tuple #[.agg #[.int .i32 p, .int .i32 q], .agg #[.int .i32 u, .int .i32 v], .bool true]) (by simp [results, Tryd.results60, go_sem, bl0, bl1, bh0, bh1]) rfl ⟨rfl, gg⟩
end Go.Proofs.YtllddcjokaalpaaDoor
