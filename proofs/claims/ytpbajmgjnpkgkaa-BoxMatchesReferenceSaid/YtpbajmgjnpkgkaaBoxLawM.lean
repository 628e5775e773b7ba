/-
  Package box: the law BoxMatchesReference.
-/
import Derived.Test.YtpbajmgjnpkgkaaBoxLawG
import Derived.Deep.DeepCutAuto
namespace Go.Proofs.Ytpbajmgjnpkgkaa
open Go.RowKit Go.Lib

set_option maxRecDepth 100000 in
set_option maxHeartbeats 8000000 in
theorem bml_bad (k r ax ay m o px py vx vy xa ya za ta xb yb zb tb x y : Int) (ze zo zk : Bool) (e1 : Int) (h1 : (e1 == 0) = false) (AW : Hid BAwake) (C1 : Hid (Rck k r ax ay m o px py vx vy e1)) (E1 : Hid (BEm xa ya za ta ze)) (E2 : Hid (REm xa ya za ta ze)) (O1 : Hid (BOv xa ya za ta xb yb zb tb zo)) (O2 : Hid (ROv xa ya za ta xb yb zb tb zo)) (K1 : Hid (BCo xa ya za ta x y zk)) (K2 : Hid (RCo xa ya za ta x y zk)) (w : World) :
    Calls Try.prog 3 #[.agg #[.int .u32 k, .int .i32 r, .int .i32 ax, .int .i32 ay, .int .i32 m, .int .i32 o, .int .i32 px, .int .i32 py, .int .i32 vx, .int .i32 vy], .agg #[.int .i32 xa, .int .i32 ya, .int .i32 za, .int .i32 ta], .agg #[.int .i32 xb, .int .i32 yb, .int .i32 zb, .int .i32 tb], .agg #[.int .i32 x, .int .i32 y]] w fun e w' => e = .returned (.bool true) ∧ Grown w w' := by
  have Fa := Lib.hid (fwd xa ya za ta)
  have Fb := Lib.hid (fwd xb yb zb tb)
  have ee : (ze == ze) = true := by simp
  have oo : (zo == zo) = true := by simp
  have kk : (zk == zk) = true := by simp
  go_enter Try.func3, Try.ntmps3
  go_wp2_with (first
    | ((with_reducible refine (AW.out _).mono ?_); rintro e w1 ⟨rfl, g1⟩
       have c0 := kept_cell g1 (b := w.heap.size) (o := 0) (v := .int .u32 k) (by (repeat (first | rw [World.cell?_drew] | rw [World.cell?_alloc_past _ _ _ (by first | (simp; done) | (simp; omega))])); rw [World.cell?_alloc_at _ _ _ _ (by simp)]; rfl)
       have c1 := kept_cell g1 (b := w.heap.size) (o := 1) (v := .int .i32 r) (by (repeat (first | rw [World.cell?_drew] | rw [World.cell?_alloc_past _ _ _ (by first | (simp; done) | (simp; omega))])); rw [World.cell?_alloc_at _ _ _ _ (by simp)]; rfl)
       have c2 := kept_cell g1 (b := w.heap.size) (o := 2) (v := .int .i32 ax) (by (repeat (first | rw [World.cell?_drew] | rw [World.cell?_alloc_past _ _ _ (by first | (simp; done) | (simp; omega))])); rw [World.cell?_alloc_at _ _ _ _ (by simp)]; rfl)
       have c3 := kept_cell g1 (b := w.heap.size) (o := 3) (v := .int .i32 ay) (by (repeat (first | rw [World.cell?_drew] | rw [World.cell?_alloc_past _ _ _ (by first | (simp; done) | (simp; omega))])); rw [World.cell?_alloc_at _ _ _ _ (by simp)]; rfl)
       have c4 := kept_cell g1 (b := w.heap.size) (o := 4) (v := .int .i32 m) (by (repeat (first | rw [World.cell?_drew] | rw [World.cell?_alloc_past _ _ _ (by first | (simp; done) | (simp; omega))])); rw [World.cell?_alloc_at _ _ _ _ (by simp)]; rfl)
       have c5 := kept_cell g1 (b := w.heap.size) (o := 5) (v := .int .i32 o) (by (repeat (first | rw [World.cell?_drew] | rw [World.cell?_alloc_past _ _ _ (by first | (simp; done) | (simp; omega))])); rw [World.cell?_alloc_at _ _ _ _ (by simp)]; rfl)
       have c6 := kept_cell g1 (b := w.heap.size) (o := 6) (v := .int .i32 px) (by (repeat (first | rw [World.cell?_drew] | rw [World.cell?_alloc_past _ _ _ (by first | (simp; done) | (simp; omega))])); rw [World.cell?_alloc_at _ _ _ _ (by simp)]; rfl)
       have c7 := kept_cell g1 (b := w.heap.size) (o := 7) (v := .int .i32 py) (by (repeat (first | rw [World.cell?_drew] | rw [World.cell?_alloc_past _ _ _ (by first | (simp; done) | (simp; omega))])); rw [World.cell?_alloc_at _ _ _ _ (by simp)]; rfl)
       have c8 := kept_cell g1 (b := w.heap.size) (o := 8) (v := .int .i32 vx) (by (repeat (first | rw [World.cell?_drew] | rw [World.cell?_alloc_past _ _ _ (by first | (simp; done) | (simp; omega))])); rw [World.cell?_alloc_at _ _ _ _ (by simp)]; rfl)
       have c9 := kept_cell g1 (b := w.heap.size) (o := 9) (v := .int .i32 vy) (by (repeat (first | rw [World.cell?_drew] | rw [World.cell?_alloc_past _ _ _ (by first | (simp; done) | (simp; omega))])); rw [World.cell?_alloc_at _ _ _ _ (by simp)]; rfl)
       have i0 := kept_cell g1 (b := w.heap.size + 1) (o := 0) (v := .int .i32 xa) (by (repeat (first | rw [World.cell?_drew] | rw [World.cell?_alloc_past _ _ _ (by first | (simp; done) | (simp; omega))])); rw [World.cell?_alloc_at _ _ _ _ (by simp)]; rfl)
       have i1 := kept_cell g1 (b := w.heap.size + 1) (o := 1) (v := .int .i32 ya) (by (repeat (first | rw [World.cell?_drew] | rw [World.cell?_alloc_past _ _ _ (by first | (simp; done) | (simp; omega))])); rw [World.cell?_alloc_at _ _ _ _ (by simp)]; rfl)
       have i2 := kept_cell g1 (b := w.heap.size + 1) (o := 2) (v := .int .i32 za) (by (repeat (first | rw [World.cell?_drew] | rw [World.cell?_alloc_past _ _ _ (by first | (simp; done) | (simp; omega))])); rw [World.cell?_alloc_at _ _ _ _ (by simp)]; rfl)
       have i3 := kept_cell g1 (b := w.heap.size + 1) (o := 3) (v := .int .i32 ta) (by (repeat (first | rw [World.cell?_drew] | rw [World.cell?_alloc_past _ _ _ (by first | (simp; done) | (simp; omega))])); rw [World.cell?_alloc_at _ _ _ _ (by simp)]; rfl)
       have j0 := kept_cell g1 (b := w.heap.size + 1 + 1) (o := 0) (v := .int .i32 xb) (by (repeat (first | rw [World.cell?_drew] | rw [World.cell?_alloc_past _ _ _ (by first | (simp; done) | (simp; omega))])); rw [World.cell?_alloc_at _ _ _ _ (by simp)]; rfl)
       have j1 := kept_cell g1 (b := w.heap.size + 1 + 1) (o := 1) (v := .int .i32 yb) (by (repeat (first | rw [World.cell?_drew] | rw [World.cell?_alloc_past _ _ _ (by first | (simp; done) | (simp; omega))])); rw [World.cell?_alloc_at _ _ _ _ (by simp)]; rfl)
       have j2 := kept_cell g1 (b := w.heap.size + 1 + 1) (o := 2) (v := .int .i32 zb) (by (repeat (first | rw [World.cell?_drew] | rw [World.cell?_alloc_past _ _ _ (by first | (simp; done) | (simp; omega))])); rw [World.cell?_alloc_at _ _ _ _ (by simp)]; rfl)
       have j3 := kept_cell g1 (b := w.heap.size + 1 + 1) (o := 3) (v := .int .i32 tb) (by (repeat (first | rw [World.cell?_drew] | rw [World.cell?_alloc_past _ _ _ (by first | (simp; done) | (simp; omega))])); rw [World.cell?_alloc_at _ _ _ _ (by simp)]; rfl)
       have n0 := kept_cell g1 (b := w.heap.size + 1 + 1 + 1) (o := 0) (v := .int .i32 x) (by (repeat (first | rw [World.cell?_drew] | rw [World.cell?_alloc_past _ _ _ (by first | (simp; done) | (simp; omega))])); rw [World.cell?_alloc_at _ _ _ _ (by simp)]; rfl)
       have n1 := kept_cell g1 (b := w.heap.size + 1 + 1 + 1) (o := 1) (v := .int .i32 y) (by (repeat (first | rw [World.cell?_drew] | rw [World.cell?_alloc_past _ _ _ (by first | (simp; done) | (simp; omega))])); rw [World.cell?_alloc_at _ _ _ _ (by simp)]; rfl)
       have gg := grown_trans (((((Grown.refl _).alloc _ _).alloc _ _).alloc _ _).alloc _ _) g1
       have zc_w1 : w.heap.size < w1.heap.size := World.block_lt_of_cell? _ _ c0
       have zi_w1 : w.heap.size + 1 < w1.heap.size := World.block_lt_of_cell? _ _ i0
       have zj_w1 : w.heap.size + 1 + 1 < w1.heap.size := World.block_lt_of_cell? _ _ j0
       have zn_w1 : w.heap.size + 1 + 1 + 1 < w1.heap.size := World.block_lt_of_cell? _ _ n0))
  refine wp_region_noPanic ?_
  refine wp_region_held_drew (S := (fun w' => w'.cell? ⟨w.heap.size, 0, none⟩ = some (.int .u32 k) ∧ w'.cell? ⟨w.heap.size, 1, none⟩ = some (.int .i32 r) ∧ w'.cell? ⟨w.heap.size, 2, none⟩ = some (.int .i32 ax) ∧ w'.cell? ⟨w.heap.size, 3, none⟩ = some (.int .i32 ay) ∧ w'.cell? ⟨w.heap.size, 4, none⟩ = some (.int .i32 m) ∧ w'.cell? ⟨w.heap.size, 5, none⟩ = some (.int .i32 o) ∧ w'.cell? ⟨w.heap.size, 6, none⟩ = some (.int .i32 px) ∧ w'.cell? ⟨w.heap.size, 7, none⟩ = some (.int .i32 py) ∧ w'.cell? ⟨w.heap.size, 8, none⟩ = some (.int .i32 vx) ∧ w'.cell? ⟨w.heap.size, 9, none⟩ = some (.int .i32 vy) ∧ w'.cell? ⟨w.heap.size + 1, 0, none⟩ = some (.int .i32 xa) ∧ w'.cell? ⟨w.heap.size + 1, 1, none⟩ = some (.int .i32 ya) ∧ w'.cell? ⟨w.heap.size + 1, 2, none⟩ = some (.int .i32 za) ∧ w'.cell? ⟨w.heap.size + 1, 3, none⟩ = some (.int .i32 ta) ∧ w'.cell? ⟨w.heap.size + 1 + 1, 0, none⟩ = some (.int .i32 xb) ∧ w'.cell? ⟨w.heap.size + 1 + 1, 1, none⟩ = some (.int .i32 yb) ∧ w'.cell? ⟨w.heap.size + 1 + 1, 2, none⟩ = some (.int .i32 zb) ∧ w'.cell? ⟨w.heap.size + 1 + 1, 3, none⟩ = some (.int .i32 tb) ∧ w'.cell? ⟨w.heap.size + 1 + 1 + 1, 0, none⟩ = some (.int .i32 x) ∧ w'.cell? ⟨w.heap.size + 1 + 1 + 1, 1, none⟩ = some (.int .i32 y) ∧ Grown w w')) (by kernel_rfl) (⟨by rw [World.cell?_drew]; exact c0, by rw [World.cell?_drew]; exact c1, by rw [World.cell?_drew]; exact c2, by rw [World.cell?_drew]; exact c3, by rw [World.cell?_drew]; exact c4, by rw [World.cell?_drew]; exact c5, by rw [World.cell?_drew]; exact c6, by rw [World.cell?_drew]; exact c7, by rw [World.cell?_drew]; exact c8, by rw [World.cell?_drew]; exact c9, by rw [World.cell?_drew]; exact i0, by rw [World.cell?_drew]; exact i1, by rw [World.cell?_drew]; exact i2, by rw [World.cell?_drew]; exact i3, by rw [World.cell?_drew]; exact j0, by rw [World.cell?_drew]; exact j1, by rw [World.cell?_drew]; exact j2, by rw [World.cell?_drew]; exact j3, by rw [World.cell?_drew]; exact n0, by rw [World.cell?_drew]; exact n1, (gg).drew⟩) (fun hH => ?_)
  refine wpAnyH_take (i := 0) (oi := { dst := some 11, op := Op.load 26 (Operand.tmp 4), type := _, pos := _, after := _, guard := none }) (v := ?_) rfl (by kernel_rfl) (by kernel_rfl) (by kernel_rfl) (fun _ _ _ h => h) (Or.inl ⟨by rfl, ?_⟩) hH ?_
  rotate_left
  · (intro w hSw; (try dsimp only at hSw); go_simp; (try with_reducible rfl))
  try simp only [Act.put, List.setIfInBounds_toArray, List.set_cons_zero, List.set_cons_succ]
  refine wpAnyH_ready (rs := [1]) (by kernel_rfl) (by simp) ?_
  refine AllReadyH.cons (o := { dst := some 12, op := Op.call { callee := Callee.value (Operand.func 9), args := #[Operand.tmp 11], argTypes := #[26] }, type := _, pos := _, after := _, guard := none }) rfl (fun K hK => ?_) AllReadyH.nil
  go_simp
  (with_reducible refine (C1.out _).mono ?_); rintro e v3_1 ⟨rfl, g⟩
  refine hK.out _ _ (by (try dsimp only); (go_split_ands; exact ⟨kept_cell g (by assumption), kept_cell g (by assumption), kept_cell g (by assumption), kept_cell g (by assumption), kept_cell g (by assumption), kept_cell g (by assumption), kept_cell g (by assumption), kept_cell g (by assumption), kept_cell g (by assumption), kept_cell g (by assumption), kept_cell g (by assumption), kept_cell g (by assumption), kept_cell g (by assumption), kept_cell g (by assumption), kept_cell g (by assumption), kept_cell g (by assumption), kept_cell g (by assumption), kept_cell g (by assumption), kept_cell g (by assumption), kept_cell g (by assumption), grown_trans (by assumption) g⟩)) (fun hH2 => ?_)
  clear hK K hH; have hH := hH2; clear hH2
  try simp only [Act.put, List.setIfInBounds_toArray, List.set_cons_zero, List.set_cons_succ]
  refine wpAnyH_take (i := 2) (oi := { dst := some 13, op := Op.binOp BinOp.eql 3 (Operand.tmp 12) (Operand.const (Value.int IntKind.i64 0)) 3, type := _, pos := _, after := _, guard := none }) (v := ?_) rfl (by kernel_rfl) (by kernel_rfl) (by kernel_rfl) (fun _ _ _ h => h) (Or.inl ⟨by rfl, ?_⟩) hH ?_
  rotate_left
  · (intro w hSw; (try dsimp only at hSw); go_simp; (try with_reducible rfl))
  try simp only [Act.put, List.setIfInBounds_toArray, List.set_cons_zero, List.set_cons_succ]
  refine wpAnyH_take (i := 3) (oi := { dst := some 14, op := Op.move (Operand.tmp 13), type := _, pos := _, after := _, guard := none }) (v := ?_) rfl (by kernel_rfl) (by kernel_rfl) (by kernel_rfl) (fun _ _ _ h => h) (Or.inl ⟨by rfl, ?_⟩) hH ?_
  rotate_left
  · (intro w hSw; (try dsimp only at hSw); go_simp; (try with_reducible rfl))
  try simp only [Act.put, List.setIfInBounds_toArray, List.set_cons_zero, List.set_cons_succ]
  refine wpAnyH_take (i := 4) (oi := { dst := some 15, op := Op.load 26 (Operand.tmp 4), type := _, pos := _, after := _, guard := some (3, true) }) (v := undef) rfl (by kernel_rfl) (by kernel_rfl) (by kernel_rfl) (fun _ _ _ h => h) (Or.inr ⟨by rfl, rfl⟩) hH ?_
  try simp only [Act.put, List.setIfInBounds_toArray, List.set_cons_zero, List.set_cons_succ]
  refine wpAnyH_take (i := 5) (oi := { dst := some 16, op := Op.call { callee := Callee.value (Operand.func 10), args := #[Operand.tmp 15], argTypes := #[26] }, type := _, pos := _, after := _, guard := some (3, true) }) (v := undef) rfl (by kernel_rfl) (by kernel_rfl) (by kernel_rfl) (fun _ _ _ h => h) (Or.inr ⟨by rfl, rfl⟩) hH ?_
  try simp only [Act.put, List.setIfInBounds_toArray, List.set_cons_zero, List.set_cons_succ]
  refine wpAnyH_take (i := 6) (oi := { dst := some 17, op := Op.load 26 (Operand.tmp 4), type := _, pos := _, after := _, guard := some (3, true) }) (v := undef) rfl (by kernel_rfl) (by kernel_rfl) (by kernel_rfl) (fun _ _ _ h => h) (Or.inr ⟨by rfl, rfl⟩) hH ?_
  try simp only [Act.put, List.setIfInBounds_toArray, List.set_cons_zero, List.set_cons_succ]
  refine wpAnyH_take (i := 7) (oi := { dst := some 18, op := Op.call { callee := Callee.value (Operand.func 12), args := #[Operand.tmp 17], argTypes := #[26] }, type := _, pos := _, after := _, guard := some (3, true) }) (v := undef) rfl (by kernel_rfl) (by kernel_rfl) (by kernel_rfl) (fun _ _ _ h => h) (Or.inr ⟨by rfl, rfl⟩) hH ?_
  try simp only [Act.put, List.setIfInBounds_toArray, List.set_cons_zero, List.set_cons_succ]
  refine wpAnyH_take (i := 8) (oi := { dst := some 19, op := Op.call { callee := Callee.value (Operand.func 11), args := #[Operand.tmp 18], argTypes := #[28] }, type := _, pos := _, after := _, guard := some (3, true) }) (v := undef) rfl (by kernel_rfl) (by kernel_rfl) (by kernel_rfl) (fun _ _ _ h => h) (Or.inr ⟨by rfl, rfl⟩) hH ?_
  try simp only [Act.put, List.setIfInBounds_toArray, List.set_cons_zero, List.set_cons_succ]
  refine wpAnyH_take (i := 9) (oi := { dst := some 20, op := Op.binOp BinOp.neq 31 (Operand.tmp 16) (Operand.tmp 19) 31, type := _, pos := _, after := _, guard := some (3, true) }) (v := undef) rfl (by kernel_rfl) (by kernel_rfl) (by kernel_rfl) (fun _ _ _ h => h) (Or.inr ⟨by rfl, rfl⟩) hH ?_
  try simp only [Act.put, List.setIfInBounds_toArray, List.set_cons_zero, List.set_cons_succ]
  refine wpAnyH_take (i := 10) (oi := { dst := some 21, op := Op.pick (Operand.tmp 14) (Operand.tmp 20) (Operand.const (Value.bool false)), type := _, pos := _, after := _, guard := none }) (v := ?_) rfl (by kernel_rfl) (by kernel_rfl) (by kernel_rfl) (fun _ _ _ h => h) (Or.inl ⟨by rfl, ?_⟩) hH ?_
  rotate_left
  · (intro w hSw; (try dsimp only at hSw); go_simp; (try with_reducible rfl))
  try simp only [Act.put, List.setIfInBounds_toArray, List.set_cons_zero, List.set_cons_succ]
  refine wpAnyH_done (by kernel_rfl) ?_ _
  refine NoPanic.normal ?_
  clear c0 c1 c2 c3 c4 c5 c6 c7 c8 c9 i0 i1 i2 i3 j0 j1 j2 j3 n0 n1 gg
  obtain ⟨c0, c1, c2, c3, c4, c5, c6, c7, c8, c9, i0, i1, i2, i3, j0, j1, j2, j3, n0, n1, gg⟩ := hH
  go_wp2_with fail
  go_region_held3 (fun w' => w'.cell? ⟨w.heap.size, 0, none⟩ = some (.int .u32 k) ∧ w'.cell? ⟨w.heap.size, 1, none⟩ = some (.int .i32 r) ∧ w'.cell? ⟨w.heap.size, 2, none⟩ = some (.int .i32 ax) ∧ w'.cell? ⟨w.heap.size, 3, none⟩ = some (.int .i32 ay) ∧ w'.cell? ⟨w.heap.size, 4, none⟩ = some (.int .i32 m) ∧ w'.cell? ⟨w.heap.size, 5, none⟩ = some (.int .i32 o) ∧ w'.cell? ⟨w.heap.size, 6, none⟩ = some (.int .i32 px) ∧ w'.cell? ⟨w.heap.size, 7, none⟩ = some (.int .i32 py) ∧ w'.cell? ⟨w.heap.size, 8, none⟩ = some (.int .i32 vx) ∧ w'.cell? ⟨w.heap.size, 9, none⟩ = some (.int .i32 vy) ∧ w'.cell? ⟨w.heap.size + 1, 0, none⟩ = some (.int .i32 xa) ∧ w'.cell? ⟨w.heap.size + 1, 1, none⟩ = some (.int .i32 ya) ∧ w'.cell? ⟨w.heap.size + 1, 2, none⟩ = some (.int .i32 za) ∧ w'.cell? ⟨w.heap.size + 1, 3, none⟩ = some (.int .i32 ta) ∧ w'.cell? ⟨w.heap.size + 1 + 1, 0, none⟩ = some (.int .i32 xb) ∧ w'.cell? ⟨w.heap.size + 1 + 1, 1, none⟩ = some (.int .i32 yb) ∧ w'.cell? ⟨w.heap.size + 1 + 1, 2, none⟩ = some (.int .i32 zb) ∧ w'.cell? ⟨w.heap.size + 1 + 1, 3, none⟩ = some (.int .i32 tb) ∧ w'.cell? ⟨w.heap.size + 1 + 1 + 1, 0, none⟩ = some (.int .i32 x) ∧ w'.cell? ⟨w.heap.size + 1 + 1 + 1, 1, none⟩ = some (.int .i32 y) ∧ Grown w w')
    (first
      | (with_reducible assumption)
      | exact ⟨by rw [World.cell?_drew]; exact c0, by rw [World.cell?_drew]; exact c1, by rw [World.cell?_drew]; exact c2, by rw [World.cell?_drew]; exact c3, by rw [World.cell?_drew]; exact c4, by rw [World.cell?_drew]; exact c5, by rw [World.cell?_drew]; exact c6, by rw [World.cell?_drew]; exact c7, by rw [World.cell?_drew]; exact c8, by rw [World.cell?_drew]; exact c9, by rw [World.cell?_drew]; exact i0, by rw [World.cell?_drew]; exact i1, by rw [World.cell?_drew]; exact i2, by rw [World.cell?_drew]; exact i3, by rw [World.cell?_drew]; exact j0, by rw [World.cell?_drew]; exact j1, by rw [World.cell?_drew]; exact j2, by rw [World.cell?_drew]; exact j3, by rw [World.cell?_drew]; exact n0, by rw [World.cell?_drew]; exact n1, (gg).drew⟩
      | (go_split_ands; exact ⟨kept_cell g (by assumption), kept_cell g (by assumption), kept_cell g (by assumption), kept_cell g (by assumption), kept_cell g (by assumption), kept_cell g (by assumption), kept_cell g (by assumption), kept_cell g (by assumption), kept_cell g (by assumption), kept_cell g (by assumption), kept_cell g (by assumption), kept_cell g (by assumption), kept_cell g (by assumption), kept_cell g (by assumption), kept_cell g (by assumption), kept_cell g (by assumption), kept_cell g (by assumption), kept_cell g (by assumption), kept_cell g (by assumption), kept_cell g (by assumption), grown_trans (by assumption) g⟩)
      | (go_split_ands; exact ⟨by rw [World.cell?_drew]; assumption, by rw [World.cell?_drew]; assumption, by rw [World.cell?_drew]; assumption, by rw [World.cell?_drew]; assumption, by rw [World.cell?_drew]; assumption, by rw [World.cell?_drew]; assumption, by rw [World.cell?_drew]; assumption, by rw [World.cell?_drew]; assumption, by rw [World.cell?_drew]; assumption, by rw [World.cell?_drew]; assumption, by rw [World.cell?_drew]; assumption, by rw [World.cell?_drew]; assumption, by rw [World.cell?_drew]; assumption, by rw [World.cell?_drew]; assumption, by rw [World.cell?_drew]; assumption, by rw [World.cell?_drew]; assumption, by rw [World.cell?_drew]; assumption, by rw [World.cell?_drew]; assumption, by rw [World.cell?_drew]; assumption, by rw [World.cell?_drew]; assumption, Grown.drew (by assumption)⟩))
    (first
    | ((with_reducible refine (Fa.out _).mono ?_); rintro e w' ⟨rfl, g⟩)
    | ((with_reducible refine (Fb.out _).mono ?_); rintro e w' ⟨rfl, g⟩)
    | ((with_reducible refine (E1.out _).mono ?_); rintro e w' ⟨rfl, g⟩)
    | ((with_reducible refine (E2.out _).mono ?_); rintro e w' ⟨rfl, g⟩)
    | ((with_reducible refine (O1.out _).mono ?_); rintro e w' ⟨rfl, g⟩)
    | ((with_reducible refine (O2.out _).mono ?_); rintro e w' ⟨rfl, g⟩)
    | ((with_reducible refine (K1.out _).mono ?_); rintro e w' ⟨rfl, g⟩)
    | ((with_reducible refine (K2.out _).mono ?_); rintro e w' ⟨rfl, g⟩))
  go_wp2_with fail
  go_ret
  exact ⟨rfl, by go_split_ands; assumption⟩
set_option maxRecDepth 100000 in
set_option maxHeartbeats 8000000 in
theorem bml_main (k r ax ay m o px py vx vy xa ya za ta xb yb zb tb x y : Int) (ze zo zk : Bool) (o0 o1 o2 o3 : Int) (AW : Hid BAwake) (C1 : Hid (Rck k r ax ay m o px py vx vy 0)) (F1 : Hid (BOf k r ax ay m o px py vx vy o0 o1 o2 o3)) (R1 : Hid (ROf k r ax ay m o px py vx vy o0 o1 o2 o3)) (W1 : Hid (Fwd o0 o1 o2 o3)) (E1 : Hid (BEm xa ya za ta ze)) (E2 : Hid (REm xa ya za ta ze)) (O1 : Hid (BOv xa ya za ta xb yb zb tb zo)) (O2 : Hid (ROv xa ya za ta xb yb zb tb zo)) (K1 : Hid (BCo xa ya za ta x y zk)) (K2 : Hid (RCo xa ya za ta x y zk)) (w : World) :
    Calls Try.prog 3 #[.agg #[.int .u32 k, .int .i32 r, .int .i32 ax, .int .i32 ay, .int .i32 m, .int .i32 o, .int .i32 px, .int .i32 py, .int .i32 vx, .int .i32 vy], .agg #[.int .i32 xa, .int .i32 ya, .int .i32 za, .int .i32 ta], .agg #[.int .i32 xb, .int .i32 yb, .int .i32 zb, .int .i32 tb], .agg #[.int .i32 x, .int .i32 y]] w fun e w' => e = .returned (.bool true) ∧ Grown w w' := by
  have Fa := Lib.hid (fwd xa ya za ta)
  have Fb := Lib.hid (fwd xb yb zb tb)
  have qq := fun w => box_neq o0 o1 o2 o3 w
  have ee : (ze == ze) = true := by simp
  have oo : (zo == zo) = true := by simp
  have kk : (zk == zk) = true := by simp
  go_enter Try.func3, Try.ntmps3
  go_wp2_with (first
    | ((with_reducible refine (AW.out _).mono ?_); rintro e w1 ⟨rfl, g1⟩
       have c0 := kept_cell g1 (b := w.heap.size) (o := 0) (v := .int .u32 k) (by (repeat (first | rw [World.cell?_drew] | rw [World.cell?_alloc_past _ _ _ (by first | (simp; done) | (simp; omega))])); rw [World.cell?_alloc_at _ _ _ _ (by simp)]; rfl)
       have c1 := kept_cell g1 (b := w.heap.size) (o := 1) (v := .int .i32 r) (by (repeat (first | rw [World.cell?_drew] | rw [World.cell?_alloc_past _ _ _ (by first | (simp; done) | (simp; omega))])); rw [World.cell?_alloc_at _ _ _ _ (by simp)]; rfl)
       have c2 := kept_cell g1 (b := w.heap.size) (o := 2) (v := .int .i32 ax) (by (repeat (first | rw [World.cell?_drew] | rw [World.cell?_alloc_past _ _ _ (by first | (simp; done) | (simp; omega))])); rw [World.cell?_alloc_at _ _ _ _ (by simp)]; rfl)
       have c3 := kept_cell g1 (b := w.heap.size) (o := 3) (v := .int .i32 ay) (by (repeat (first | rw [World.cell?_drew] | rw [World.cell?_alloc_past _ _ _ (by first | (simp; done) | (simp; omega))])); rw [World.cell?_alloc_at _ _ _ _ (by simp)]; rfl)
       have c4 := kept_cell g1 (b := w.heap.size) (o := 4) (v := .int .i32 m) (by (repeat (first | rw [World.cell?_drew] | rw [World.cell?_alloc_past _ _ _ (by first | (simp; done) | (simp; omega))])); rw [World.cell?_alloc_at _ _ _ _ (by simp)]; rfl)
       have c5 := kept_cell g1 (b := w.heap.size) (o := 5) (v := .int .i32 o) (by (repeat (first | rw [World.cell?_drew] | rw [World.cell?_alloc_past _ _ _ (by first | (simp; done) | (simp; omega))])); rw [World.cell?_alloc_at _ _ _ _ (by simp)]; rfl)
       have c6 := kept_cell g1 (b := w.heap.size) (o := 6) (v := .int .i32 px) (by (repeat (first | rw [World.cell?_drew] | rw [World.cell?_alloc_past _ _ _ (by first | (simp; done) | (simp; omega))])); rw [World.cell?_alloc_at _ _ _ _ (by simp)]; rfl)
       have c7 := kept_cell g1 (b := w.heap.size) (o := 7) (v := .int .i32 py) (by (repeat (first | rw [World.cell?_drew] | rw [World.cell?_alloc_past _ _ _ (by first | (simp; done) | (simp; omega))])); rw [World.cell?_alloc_at _ _ _ _ (by simp)]; rfl)
       have c8 := kept_cell g1 (b := w.heap.size) (o := 8) (v := .int .i32 vx) (by (repeat (first | rw [World.cell?_drew] | rw [World.cell?_alloc_past _ _ _ (by first | (simp; done) | (simp; omega))])); rw [World.cell?_alloc_at _ _ _ _ (by simp)]; rfl)
       have c9 := kept_cell g1 (b := w.heap.size) (o := 9) (v := .int .i32 vy) (by (repeat (first | rw [World.cell?_drew] | rw [World.cell?_alloc_past _ _ _ (by first | (simp; done) | (simp; omega))])); rw [World.cell?_alloc_at _ _ _ _ (by simp)]; rfl)
       have i0 := kept_cell g1 (b := w.heap.size + 1) (o := 0) (v := .int .i32 xa) (by (repeat (first | rw [World.cell?_drew] | rw [World.cell?_alloc_past _ _ _ (by first | (simp; done) | (simp; omega))])); rw [World.cell?_alloc_at _ _ _ _ (by simp)]; rfl)
       have i1 := kept_cell g1 (b := w.heap.size + 1) (o := 1) (v := .int .i32 ya) (by (repeat (first | rw [World.cell?_drew] | rw [World.cell?_alloc_past _ _ _ (by first | (simp; done) | (simp; omega))])); rw [World.cell?_alloc_at _ _ _ _ (by simp)]; rfl)
       have i2 := kept_cell g1 (b := w.heap.size + 1) (o := 2) (v := .int .i32 za) (by (repeat (first | rw [World.cell?_drew] | rw [World.cell?_alloc_past _ _ _ (by first | (simp; done) | (simp; omega))])); rw [World.cell?_alloc_at _ _ _ _ (by simp)]; rfl)
       have i3 := kept_cell g1 (b := w.heap.size + 1) (o := 3) (v := .int .i32 ta) (by (repeat (first | rw [World.cell?_drew] | rw [World.cell?_alloc_past _ _ _ (by first | (simp; done) | (simp; omega))])); rw [World.cell?_alloc_at _ _ _ _ (by simp)]; rfl)
       have j0 := kept_cell g1 (b := w.heap.size + 1 + 1) (o := 0) (v := .int .i32 xb) (by (repeat (first | rw [World.cell?_drew] | rw [World.cell?_alloc_past _ _ _ (by first | (simp; done) | (simp; omega))])); rw [World.cell?_alloc_at _ _ _ _ (by simp)]; rfl)
       have j1 := kept_cell g1 (b := w.heap.size + 1 + 1) (o := 1) (v := .int .i32 yb) (by (repeat (first | rw [World.cell?_drew] | rw [World.cell?_alloc_past _ _ _ (by first | (simp; done) | (simp; omega))])); rw [World.cell?_alloc_at _ _ _ _ (by simp)]; rfl)
       have j2 := kept_cell g1 (b := w.heap.size + 1 + 1) (o := 2) (v := .int .i32 zb) (by (repeat (first | rw [World.cell?_drew] | rw [World.cell?_alloc_past _ _ _ (by first | (simp; done) | (simp; omega))])); rw [World.cell?_alloc_at _ _ _ _ (by simp)]; rfl)
       have j3 := kept_cell g1 (b := w.heap.size + 1 + 1) (o := 3) (v := .int .i32 tb) (by (repeat (first | rw [World.cell?_drew] | rw [World.cell?_alloc_past _ _ _ (by first | (simp; done) | (simp; omega))])); rw [World.cell?_alloc_at _ _ _ _ (by simp)]; rfl)
       have n0 := kept_cell g1 (b := w.heap.size + 1 + 1 + 1) (o := 0) (v := .int .i32 x) (by (repeat (first | rw [World.cell?_drew] | rw [World.cell?_alloc_past _ _ _ (by first | (simp; done) | (simp; omega))])); rw [World.cell?_alloc_at _ _ _ _ (by simp)]; rfl)
       have n1 := kept_cell g1 (b := w.heap.size + 1 + 1 + 1) (o := 1) (v := .int .i32 y) (by (repeat (first | rw [World.cell?_drew] | rw [World.cell?_alloc_past _ _ _ (by first | (simp; done) | (simp; omega))])); rw [World.cell?_alloc_at _ _ _ _ (by simp)]; rfl)
       have gg := grown_trans (((((Grown.refl _).alloc _ _).alloc _ _).alloc _ _).alloc _ _) g1
       have zc_w1 : w.heap.size < w1.heap.size := World.block_lt_of_cell? _ _ c0
       have zi_w1 : w.heap.size + 1 < w1.heap.size := World.block_lt_of_cell? _ _ i0
       have zj_w1 : w.heap.size + 1 + 1 < w1.heap.size := World.block_lt_of_cell? _ _ j0
       have zn_w1 : w.heap.size + 1 + 1 + 1 < w1.heap.size := World.block_lt_of_cell? _ _ n0))
  refine wp_region_noPanic ?_
  refine wp_region_held_drew (S := (fun w' => w'.cell? ⟨w.heap.size, 0, none⟩ = some (.int .u32 k) ∧ w'.cell? ⟨w.heap.size, 1, none⟩ = some (.int .i32 r) ∧ w'.cell? ⟨w.heap.size, 2, none⟩ = some (.int .i32 ax) ∧ w'.cell? ⟨w.heap.size, 3, none⟩ = some (.int .i32 ay) ∧ w'.cell? ⟨w.heap.size, 4, none⟩ = some (.int .i32 m) ∧ w'.cell? ⟨w.heap.size, 5, none⟩ = some (.int .i32 o) ∧ w'.cell? ⟨w.heap.size, 6, none⟩ = some (.int .i32 px) ∧ w'.cell? ⟨w.heap.size, 7, none⟩ = some (.int .i32 py) ∧ w'.cell? ⟨w.heap.size, 8, none⟩ = some (.int .i32 vx) ∧ w'.cell? ⟨w.heap.size, 9, none⟩ = some (.int .i32 vy) ∧ w'.cell? ⟨w.heap.size + 1, 0, none⟩ = some (.int .i32 xa) ∧ w'.cell? ⟨w.heap.size + 1, 1, none⟩ = some (.int .i32 ya) ∧ w'.cell? ⟨w.heap.size + 1, 2, none⟩ = some (.int .i32 za) ∧ w'.cell? ⟨w.heap.size + 1, 3, none⟩ = some (.int .i32 ta) ∧ w'.cell? ⟨w.heap.size + 1 + 1, 0, none⟩ = some (.int .i32 xb) ∧ w'.cell? ⟨w.heap.size + 1 + 1, 1, none⟩ = some (.int .i32 yb) ∧ w'.cell? ⟨w.heap.size + 1 + 1, 2, none⟩ = some (.int .i32 zb) ∧ w'.cell? ⟨w.heap.size + 1 + 1, 3, none⟩ = some (.int .i32 tb) ∧ w'.cell? ⟨w.heap.size + 1 + 1 + 1, 0, none⟩ = some (.int .i32 x) ∧ w'.cell? ⟨w.heap.size + 1 + 1 + 1, 1, none⟩ = some (.int .i32 y) ∧ Grown w w')) (by kernel_rfl) (⟨by rw [World.cell?_drew]; exact c0, by rw [World.cell?_drew]; exact c1, by rw [World.cell?_drew]; exact c2, by rw [World.cell?_drew]; exact c3, by rw [World.cell?_drew]; exact c4, by rw [World.cell?_drew]; exact c5, by rw [World.cell?_drew]; exact c6, by rw [World.cell?_drew]; exact c7, by rw [World.cell?_drew]; exact c8, by rw [World.cell?_drew]; exact c9, by rw [World.cell?_drew]; exact i0, by rw [World.cell?_drew]; exact i1, by rw [World.cell?_drew]; exact i2, by rw [World.cell?_drew]; exact i3, by rw [World.cell?_drew]; exact j0, by rw [World.cell?_drew]; exact j1, by rw [World.cell?_drew]; exact j2, by rw [World.cell?_drew]; exact j3, by rw [World.cell?_drew]; exact n0, by rw [World.cell?_drew]; exact n1, (gg).drew⟩) (fun hH => ?_)
  refine wpAnyH_take (i := 0) (oi := { dst := some 11, op := Op.load 26 (Operand.tmp 4), type := _, pos := _, after := _, guard := none }) (v := ?_) rfl (by kernel_rfl) (by kernel_rfl) (by kernel_rfl) (fun _ _ _ h => h) (Or.inl ⟨by rfl, ?_⟩) hH ?_
  rotate_left
  · (intro w hSw; (try dsimp only at hSw); go_simp; (try with_reducible rfl))
  try simp only [Act.put, List.setIfInBounds_toArray, List.set_cons_zero, List.set_cons_succ]
  refine wpAnyH_ready (rs := [1]) (by kernel_rfl) (by simp) ?_
  refine AllReadyH.cons (o := { dst := some 12, op := Op.call { callee := Callee.value (Operand.func 9), args := #[Operand.tmp 11], argTypes := #[26] }, type := _, pos := _, after := _, guard := none }) rfl (fun K hK => ?_) AllReadyH.nil
  go_simp
  (with_reducible refine (C1.out _).mono ?_); rintro e v3_1 ⟨rfl, g⟩
  refine hK.out _ _ (by (try dsimp only); (go_split_ands; exact ⟨kept_cell g (by assumption), kept_cell g (by assumption), kept_cell g (by assumption), kept_cell g (by assumption), kept_cell g (by assumption), kept_cell g (by assumption), kept_cell g (by assumption), kept_cell g (by assumption), kept_cell g (by assumption), kept_cell g (by assumption), kept_cell g (by assumption), kept_cell g (by assumption), kept_cell g (by assumption), kept_cell g (by assumption), kept_cell g (by assumption), kept_cell g (by assumption), kept_cell g (by assumption), kept_cell g (by assumption), kept_cell g (by assumption), kept_cell g (by assumption), grown_trans (by assumption) g⟩)) (fun hH2 => ?_)
  clear hK K hH; have hH := hH2; clear hH2
  try simp only [Act.put, List.setIfInBounds_toArray, List.set_cons_zero, List.set_cons_succ]
  refine wpAnyH_take (i := 2) (oi := { dst := some 13, op := Op.binOp BinOp.eql 3 (Operand.tmp 12) (Operand.const (Value.int IntKind.i64 0)) 3, type := _, pos := _, after := _, guard := none }) (v := ?_) rfl (by kernel_rfl) (by kernel_rfl) (by kernel_rfl) (fun _ _ _ h => h) (Or.inl ⟨by rfl, ?_⟩) hH ?_
  rotate_left
  · (intro w hSw; (try dsimp only at hSw); go_simp; (try with_reducible rfl))
  try simp only [Act.put, List.setIfInBounds_toArray, List.set_cons_zero, List.set_cons_succ]
  refine wpAnyH_take (i := 3) (oi := { dst := some 14, op := Op.move (Operand.tmp 13), type := _, pos := _, after := _, guard := none }) (v := ?_) rfl (by kernel_rfl) (by kernel_rfl) (by kernel_rfl) (fun _ _ _ h => h) (Or.inl ⟨by rfl, ?_⟩) hH ?_
  rotate_left
  · (intro w hSw; (try dsimp only at hSw); go_simp; (try with_reducible rfl))
  try simp only [Act.put, List.setIfInBounds_toArray, List.set_cons_zero, List.set_cons_succ]
  refine wpAnyH_take (i := 4) (oi := { dst := some 15, op := Op.load 26 (Operand.tmp 4), type := _, pos := _, after := _, guard := some (3, true) }) (v := ?_) rfl (by kernel_rfl) (by kernel_rfl) (by kernel_rfl) (fun _ _ _ h => h) (Or.inl ⟨by rfl, ?_⟩) hH ?_
  rotate_left
  · (intro w hSw; (try dsimp only at hSw); go_simp; (try with_reducible rfl))
  try simp only [Act.put, List.setIfInBounds_toArray, List.set_cons_zero, List.set_cons_succ]
  refine wpAnyH_take (i := 6) (oi := { dst := some 17, op := Op.load 26 (Operand.tmp 4), type := _, pos := _, after := _, guard := some (3, true) }) (v := ?_) rfl (by kernel_rfl) (by kernel_rfl) (by kernel_rfl) (fun _ _ _ h => h) (Or.inl ⟨by rfl, ?_⟩) hH ?_
  rotate_left
  · (intro w hSw; (try dsimp only at hSw); go_simp; (try with_reducible rfl))
  try simp only [Act.put, List.setIfInBounds_toArray, List.set_cons_zero, List.set_cons_succ]
  refine wpAnyH_ready (rs := [5]) (by kernel_rfl) (by simp) ?_
  refine AllReadyH.cons (o := { dst := some 16, op := Op.call { callee := Callee.value (Operand.func 10), args := #[Operand.tmp 15], argTypes := #[26] }, type := _, pos := _, after := _, guard := some (3, true) }) rfl (fun K hK => ?_) AllReadyH.nil
  go_simp
  (with_reducible refine (F1.out _).mono ?_); rintro e v3_5 ⟨rfl, g⟩
  refine hK.out _ _ (by (try dsimp only); (go_split_ands; exact ⟨kept_cell g (by assumption), kept_cell g (by assumption), kept_cell g (by assumption), kept_cell g (by assumption), kept_cell g (by assumption), kept_cell g (by assumption), kept_cell g (by assumption), kept_cell g (by assumption), kept_cell g (by assumption), kept_cell g (by assumption), kept_cell g (by assumption), kept_cell g (by assumption), kept_cell g (by assumption), kept_cell g (by assumption), kept_cell g (by assumption), kept_cell g (by assumption), kept_cell g (by assumption), kept_cell g (by assumption), kept_cell g (by assumption), kept_cell g (by assumption), grown_trans (by assumption) g⟩)) (fun hH2 => ?_)
  clear hK K hH; have hH := hH2; clear hH2
  try simp only [Act.put, List.setIfInBounds_toArray, List.set_cons_zero, List.set_cons_succ]
  refine wpAnyH_ready (rs := [7]) (by kernel_rfl) (by simp) ?_
  refine AllReadyH.cons (o := { dst := some 18, op := Op.call { callee := Callee.value (Operand.func 12), args := #[Operand.tmp 17], argTypes := #[26] }, type := _, pos := _, after := _, guard := some (3, true) }) rfl (fun K hK => ?_) AllReadyH.nil
  go_simp
  (with_reducible refine (R1.out _).mono ?_); rintro e v3_7 ⟨rfl, g⟩
  refine hK.out _ _ (by (try dsimp only); (go_split_ands; exact ⟨kept_cell g (by assumption), kept_cell g (by assumption), kept_cell g (by assumption), kept_cell g (by assumption), kept_cell g (by assumption), kept_cell g (by assumption), kept_cell g (by assumption), kept_cell g (by assumption), kept_cell g (by assumption), kept_cell g (by assumption), kept_cell g (by assumption), kept_cell g (by assumption), kept_cell g (by assumption), kept_cell g (by assumption), kept_cell g (by assumption), kept_cell g (by assumption), kept_cell g (by assumption), kept_cell g (by assumption), kept_cell g (by assumption), kept_cell g (by assumption), grown_trans (by assumption) g⟩)) (fun hH2 => ?_)
  clear hK K hH; have hH := hH2; clear hH2
  try simp only [Act.put, List.setIfInBounds_toArray, List.set_cons_zero, List.set_cons_succ]
  refine wpAnyH_ready (rs := [8]) (by kernel_rfl) (by simp) ?_
  refine AllReadyH.cons (o := { dst := some 19, op := Op.call { callee := Callee.value (Operand.func 11), args := #[Operand.tmp 18], argTypes := #[28] }, type := _, pos := _, after := _, guard := some (3, true) }) rfl (fun K hK => ?_) AllReadyH.nil
  go_simp
  (with_reducible refine (W1.out _).mono ?_); rintro e v3_8 ⟨rfl, g⟩
  refine hK.out _ _ (by (try dsimp only); (go_split_ands; exact ⟨kept_cell g (by assumption), kept_cell g (by assumption), kept_cell g (by assumption), kept_cell g (by assumption), kept_cell g (by assumption), kept_cell g (by assumption), kept_cell g (by assumption), kept_cell g (by assumption), kept_cell g (by assumption), kept_cell g (by assumption), kept_cell g (by assumption), kept_cell g (by assumption), kept_cell g (by assumption), kept_cell g (by assumption), kept_cell g (by assumption), kept_cell g (by assumption), kept_cell g (by assumption), kept_cell g (by assumption), kept_cell g (by assumption), kept_cell g (by assumption), grown_trans (by assumption) g⟩)) (fun hH2 => ?_)
  clear hK K hH; have hH := hH2; clear hH2
  try simp only [Act.put, List.setIfInBounds_toArray, List.set_cons_zero, List.set_cons_succ]
  refine wpAnyH_take (i := 9) (oi := { dst := some 20, op := Op.binOp BinOp.neq 31 (Operand.tmp 16) (Operand.tmp 19) 31, type := _, pos := _, after := _, guard := some (3, true) }) (v := ?_) rfl (by kernel_rfl) (by kernel_rfl) (by kernel_rfl) (fun _ _ _ h => h) (Or.inl ⟨by rfl, ?_⟩) hH ?_
  rotate_left
  · (intro w hSw; (try dsimp only at hSw); go_simp; (try with_reducible rfl))
  try simp only [Act.put, List.setIfInBounds_toArray, List.set_cons_zero, List.set_cons_succ]
  refine wpAnyH_take (i := 10) (oi := { dst := some 21, op := Op.pick (Operand.tmp 14) (Operand.tmp 20) (Operand.const (Value.bool false)), type := _, pos := _, after := _, guard := none }) (v := ?_) rfl (by kernel_rfl) (by kernel_rfl) (by kernel_rfl) (fun _ _ _ h => h) (Or.inl ⟨by rfl, ?_⟩) hH ?_
  rotate_left
  · (intro w hSw; (try dsimp only at hSw); go_simp; (try with_reducible rfl))
  try simp only [Act.put, List.setIfInBounds_toArray, List.set_cons_zero, List.set_cons_succ]
  refine wpAnyH_done (by kernel_rfl) ?_ _
  refine NoPanic.normal ?_
  clear c0 c1 c2 c3 c4 c5 c6 c7 c8 c9 i0 i1 i2 i3 j0 j1 j2 j3 n0 n1 gg
  obtain ⟨c0, c1, c2, c3, c4, c5, c6, c7, c8, c9, i0, i1, i2, i3, j0, j1, j2, j3, n0, n1, gg⟩ := hH
  go_wp2_with fail
  go_region_held3 (fun w' => w'.cell? ⟨w.heap.size, 0, none⟩ = some (.int .u32 k) ∧ w'.cell? ⟨w.heap.size, 1, none⟩ = some (.int .i32 r) ∧ w'.cell? ⟨w.heap.size, 2, none⟩ = some (.int .i32 ax) ∧ w'.cell? ⟨w.heap.size, 3, none⟩ = some (.int .i32 ay) ∧ w'.cell? ⟨w.heap.size, 4, none⟩ = some (.int .i32 m) ∧ w'.cell? ⟨w.heap.size, 5, none⟩ = some (.int .i32 o) ∧ w'.cell? ⟨w.heap.size, 6, none⟩ = some (.int .i32 px) ∧ w'.cell? ⟨w.heap.size, 7, none⟩ = some (.int .i32 py) ∧ w'.cell? ⟨w.heap.size, 8, none⟩ = some (.int .i32 vx) ∧ w'.cell? ⟨w.heap.size, 9, none⟩ = some (.int .i32 vy) ∧ w'.cell? ⟨w.heap.size + 1, 0, none⟩ = some (.int .i32 xa) ∧ w'.cell? ⟨w.heap.size + 1, 1, none⟩ = some (.int .i32 ya) ∧ w'.cell? ⟨w.heap.size + 1, 2, none⟩ = some (.int .i32 za) ∧ w'.cell? ⟨w.heap.size + 1, 3, none⟩ = some (.int .i32 ta) ∧ w'.cell? ⟨w.heap.size + 1 + 1, 0, none⟩ = some (.int .i32 xb) ∧ w'.cell? ⟨w.heap.size + 1 + 1, 1, none⟩ = some (.int .i32 yb) ∧ w'.cell? ⟨w.heap.size + 1 + 1, 2, none⟩ = some (.int .i32 zb) ∧ w'.cell? ⟨w.heap.size + 1 + 1, 3, none⟩ = some (.int .i32 tb) ∧ w'.cell? ⟨w.heap.size + 1 + 1 + 1, 0, none⟩ = some (.int .i32 x) ∧ w'.cell? ⟨w.heap.size + 1 + 1 + 1, 1, none⟩ = some (.int .i32 y) ∧ Grown w w')
    (first
      | (with_reducible assumption)
      | exact ⟨by rw [World.cell?_drew]; exact c0, by rw [World.cell?_drew]; exact c1, by rw [World.cell?_drew]; exact c2, by rw [World.cell?_drew]; exact c3, by rw [World.cell?_drew]; exact c4, by rw [World.cell?_drew]; exact c5, by rw [World.cell?_drew]; exact c6, by rw [World.cell?_drew]; exact c7, by rw [World.cell?_drew]; exact c8, by rw [World.cell?_drew]; exact c9, by rw [World.cell?_drew]; exact i0, by rw [World.cell?_drew]; exact i1, by rw [World.cell?_drew]; exact i2, by rw [World.cell?_drew]; exact i3, by rw [World.cell?_drew]; exact j0, by rw [World.cell?_drew]; exact j1, by rw [World.cell?_drew]; exact j2, by rw [World.cell?_drew]; exact j3, by rw [World.cell?_drew]; exact n0, by rw [World.cell?_drew]; exact n1, (gg).drew⟩
      | (go_split_ands; exact ⟨kept_cell g (by assumption), kept_cell g (by assumption), kept_cell g (by assumption), kept_cell g (by assumption), kept_cell g (by assumption), kept_cell g (by assumption), kept_cell g (by assumption), kept_cell g (by assumption), kept_cell g (by assumption), kept_cell g (by assumption), kept_cell g (by assumption), kept_cell g (by assumption), kept_cell g (by assumption), kept_cell g (by assumption), kept_cell g (by assumption), kept_cell g (by assumption), kept_cell g (by assumption), kept_cell g (by assumption), kept_cell g (by assumption), kept_cell g (by assumption), grown_trans (by assumption) g⟩)
      | (go_split_ands; exact ⟨by rw [World.cell?_drew]; assumption, by rw [World.cell?_drew]; assumption, by rw [World.cell?_drew]; assumption, by rw [World.cell?_drew]; assumption, by rw [World.cell?_drew]; assumption, by rw [World.cell?_drew]; assumption, by rw [World.cell?_drew]; assumption, by rw [World.cell?_drew]; assumption, by rw [World.cell?_drew]; assumption, by rw [World.cell?_drew]; assumption, by rw [World.cell?_drew]; assumption, by rw [World.cell?_drew]; assumption, by rw [World.cell?_drew]; assumption, by rw [World.cell?_drew]; assumption, by rw [World.cell?_drew]; assumption, by rw [World.cell?_drew]; assumption, by rw [World.cell?_drew]; assumption, by rw [World.cell?_drew]; assumption, by rw [World.cell?_drew]; assumption, by rw [World.cell?_drew]; assumption, Grown.drew (by assumption)⟩))
    (first
    | ((with_reducible refine (Fa.out _).mono ?_); rintro e w' ⟨rfl, g⟩)
    | ((with_reducible refine (Fb.out _).mono ?_); rintro e w' ⟨rfl, g⟩)
    | ((with_reducible refine (E1.out _).mono ?_); rintro e w' ⟨rfl, g⟩)
    | ((with_reducible refine (E2.out _).mono ?_); rintro e w' ⟨rfl, g⟩)
    | ((with_reducible refine (O1.out _).mono ?_); rintro e w' ⟨rfl, g⟩)
    | ((with_reducible refine (O2.out _).mono ?_); rintro e w' ⟨rfl, g⟩)
    | ((with_reducible refine (K1.out _).mono ?_); rintro e w' ⟨rfl, g⟩)
    | ((with_reducible refine (K2.out _).mono ?_); rintro e w' ⟨rfl, g⟩))
  go_wp2_with fail
  go_ret
  exact ⟨rfl, by go_split_ands; assumption⟩
/-- The law BoxMatchesReference. -/
theorem bml_all (AW : BAwake) (O : BOps) (k r ax ay m o px py vx vy xa ya za ta xb yb zb tb x y : Int) (w : World) : Calls Try.prog 3 #[.agg #[.int .u32 k, .int .i32 r, .int .i32 ax, .int .i32 ay, .int .i32 m, .int .i32 o, .int .i32 px, .int .i32 py, .int .i32 vx, .int .i32 vy], .agg #[.int .i32 xa, .int .i32 ya, .int .i32 za, .int .i32 ta], .agg #[.int .i32 xb, .int .i32 yb, .int .i32 zb, .int .i32 tb], .agg #[.int .i32 x, .int .i32 y]] w fun e w' => e = .returned (.bool true) ∧ Grown w w' := by
  by_cases e1 : chk r ax ay m o px py vx vy = 0
  rotate_left
  · exact bml_bad k r ax ay m o px py vx vy xa ya za ta xb yb zb tb x y _ _ _ _ (beq_eq_false_iff_ne.2 e1) (Lib.hid AW) (Lib.hid (rck k r ax ay m o px py vx vy _ rfl)) (Lib.hid (O.empty _ _ _ _)) (Lib.hid (rem _ _ _ _ _ rfl)) (Lib.hid (O.overlap _ _ _ _ _ _ _ _)) (Lib.hid (rov _ _ _ _ _ _ _ _ _ rfl)) (Lib.hid (O.contains _ _ _ _ _ _)) (Lib.hid (rco _ _ _ _ _ _ _ rfl)) w
  obtain ⟨v1, ⟨v2, v3⟩, v4, v5⟩ := chk_in e1
  obtain ⟨X, hX⟩ : ∃ X, max ax (-ax) + r = X := ⟨_, rfl⟩
  obtain ⟨Y, hY⟩ : ∃ Y, max ay (-ay) + r = Y := ⟨_, rfl⟩
  exact bml_main k r ax ay m o px py vx vy xa ya za ta xb yb zb tb x y _ _ _ _ _ _ _ (Lib.hid AW) (Lib.hid (rck k r ax ay m o px py vx vy _ e1)) (Lib.hid (O.of k r ax ay m o px py vx vy X Y v2 v3 v1 hX hY (by omega) (by omega))) (Lib.hid (rof k r ax ay m o px py vx vy _ _ X Y _ _ _ _ (Lib.hid (rab (by omega) (by omega) rfl)) (Lib.hid (rab (by omega) (by omega) rfl)) (by unfold wrap32; omega) (by unfold wrap32; omega) (by unfold wrap32; omega) (by unfold wrap32; omega) (by unfold wrap32; omega) (by unfold wrap32; omega))) (Lib.hid (fwd _ _ _ _)) (Lib.hid (O.empty _ _ _ _)) (Lib.hid (rem _ _ _ _ _ rfl)) (Lib.hid (O.overlap _ _ _ _ _ _ _ _)) (Lib.hid (rov _ _ _ _ _ _ _ _ _ rfl)) (Lib.hid (O.contains _ _ _ _ _ _)) (Lib.hid (rco _ _ _ _ _ _ _ rfl)) w
end Go.Proofs.Ytpbajmgjnpkgkaa
