/-
  Package body: its functions but Check.
-/
import Derived.Test.YtnbncdgadahhbaaDoorGrown
import Derived.Deep.DeepCutAuto
namespace Go.Proofs.YtnbncdgadahhbaaDoor
open Go.RowKit Go.Lib

abbrev Bab1 (n q : Int) : Prop := ∀ w, Calls Tryd.prog 38 #[.int .i32 n] w fun e w' => e = .returned (.int .i32 q) ∧ w = w'
abbrev Ext (k r ax ay m o px py vx vy x y : Int) : Prop := ∀ w, Calls Tryd.prog 34 #[.agg #[.int .u32 k, .int .i32 r, .int .i32 ax, .int .i32 ay, .int .i32 m, .int .i32 o, .int .i32 px, .int .i32 py, .int .i32 vx, .int .i32 vy]] w fun e w' => e = .returned (.tuple #[.int .i32 x, .int .i32 y]) ∧ Grown w w'
theorem bab1 {n q : Int} (h1 : -2147483648 < n) (h2 : n < 2147483648) (hq : max n (-n) = q) : Bab1 n q := fun w => by
  have e1 : wrap32 (-n) = -n := by unfold wrap32; omega
  have e2 : IntKind.i32.wrap (-n) = -n := by rw [IntKind.wrap_i32]; omega
  rw [← hq]
  clear hq
  go_enter Tryd.func38, Tryd.ntmps38
  go_wp2
  go_ret
  exact ⟨rfl, rfl⟩
set_option maxHeartbeats 1000000 in
theorem ext_of (k r ax ay m o px py vx vy ux uy x y : Int) (C1 : Hid (Bab1 ax ux)) (C2 : Hid (Bab1 ay uy)) (hx : wrap32 (ux + r) = x) (hy : wrap32 (uy + r) = y) : Ext k r ax ay m o px py vx vy x y := fun w => by
  have e1 : IntKind.i32.wrap (ux + r) = x := by rw [← hx, IntKind.wrap_i32]; unfold wrap32; rfl
  have e2 : IntKind.i32.wrap (uy + r) = y := by rw [← hy, IntKind.wrap_i32]; unfold wrap32; rfl
  go_enter Tryd.func34, Tryd.ntmps34
  go_wp2_with fail
  go_region_held3 (fun w' => w'.cell? ⟨w.heap.size, 1, none⟩ = some (.int .i32 r) ∧ w'.cell? ⟨w.heap.size, 2, none⟩ = some (.int .i32 ax) ∧ w'.cell? ⟨w.heap.size, 3, none⟩ = some (.int .i32 ay) ∧ Grown w w')
    (first
      | (with_reducible assumption)
      | exact ⟨by rw [World.cell?_drew, World.cell?_alloc_at _ _ _ _ rfl]; rfl, by rw [World.cell?_drew, World.cell?_alloc_at _ _ _ _ rfl]; rfl, by rw [World.cell?_drew, World.cell?_alloc_at _ _ _ _ rfl]; rfl, ((Grown.refl _).alloc _ _).drew⟩)
    (first
      | ((with_reducible refine (C1.out _).mono ?_); rintro e w' ⟨rfl, rfl⟩)
      | ((with_reducible refine (C2.out _).mono ?_); rintro e w' ⟨rfl, rfl⟩))
  go_wp2_with fail
  go_ret2
  exact ⟨rfl, by go_split_ands; assumption⟩
end Go.Proofs.YtnbncdgadahhbaaDoor
