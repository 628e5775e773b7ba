import Derived.Test.YtnmnbogjnjbopaaDoorGrown
import Derived.Test.YtnmnbogjnjbopaaDoorBodyRef
import Derived.Deep.QuietTactic
import Derived.BigQuiet

/-! BoxAll: BoxMath, BoxRef. -/

section
/-
  Package box: boxes as numbers (no program).
-/
namespace Go.Proofs.YtnmnbogjnjbopaaDoor

/-- The box is empty. -/
def empB (a b c d : Int) : Bool := decide (c < a ∨ d < b)
def ovlB (a b c d e f g h : Int) : Bool := decide (a ≤ c ∧ b ≤ d ∧ e ≤ g ∧ f ≤ h ∧ a ≤ g ∧ e ≤ c ∧ b ≤ h ∧ f ≤ d)
def conB (a b c d x y : Int) : Bool := decide (a ≤ x ∧ x ≤ c ∧ b ≤ y ∧ y ≤ d)
abbrev Q4 := Int × Int × Int × Int
end Go.Proofs.YtnmnbogjnjbopaaDoor
end

section
/-
  Package box: contracts of its functions; its slow reference.
-/
namespace Go.Proofs.YtnmnbogjnjbopaaDoor
open Go.RowKit Go.Lib

abbrev BEm (xa ya za ta : Int) (z : Bool) : Prop := ∀ w, Calls Tryd.prog 76 #[.agg #[.int .i32 xa, .int .i32 ya, .int .i32 za, .int .i32 ta]] w fun e w' => e = .returned (.bool z) ∧ Grown w w'
abbrev BOv (xa ya za ta xb yb zb tb : Int) (z : Bool) : Prop := ∀ w, Calls Tryd.prog 58 #[.agg #[.int .i32 xa, .int .i32 ya, .int .i32 za, .int .i32 ta], .agg #[.int .i32 xb, .int .i32 yb, .int .i32 zb, .int .i32 tb]] w fun e w' => e = .returned (.bool z) ∧ Grown w w'
abbrev BOf (k r ax ay m o px py vx vy x y z t : Int) : Prop := ∀ w, Calls Tryd.prog 60 #[.agg #[.int .u32 k, .int .i32 r, .int .i32 ax, .int .i32 ay, .int .i32 m, .int .i32 o, .int .i32 px, .int .i32 py, .int .i32 vx, .int .i32 vy]] w fun e w' => e = .returned (.agg #[.int .i32 x, .int .i32 y, .int .i32 z, .int .i32 t]) ∧ Grown w w'
abbrev REm (xa ya za ta : Int) (z : Bool) : Prop := ∀ w, Calls Tryd.prog 53 #[.agg #[.int .i32 xa, .int .i32 ya, .int .i32 za, .int .i32 ta]] w fun e w' => e = .returned (.bool z) ∧ Grown w w'
abbrev ROv (xa ya za ta xb yb zb tb : Int) (z : Bool) : Prop := ∀ w, Calls Tryd.prog 24 #[.agg #[.int .i32 xa, .int .i32 ya, .int .i32 za, .int .i32 ta], .agg #[.int .i32 xb, .int .i32 yb, .int .i32 zb, .int .i32 tb]] w fun e w' => e = .returned (.bool z) ∧ Grown w w'
abbrev RCo (xa ya za ta x y : Int) (z : Bool) : Prop := ∀ w, Calls Tryd.prog 26 #[.agg #[.int .i32 xa, .int .i32 ya, .int .i32 za, .int .i32 ta], .agg #[.int .i32 x, .int .i32 y]] w fun e w' => e = .returned (.bool z) ∧ Grown w w'
abbrev ROf (k r ax ay m o px py vx vy x y z t : Int) : Prop := ∀ w, Calls Tryd.prog 36 #[.agg #[.int .u32 k, .int .i32 r, .int .i32 ax, .int .i32 ay, .int .i32 m, .int .i32 o, .int .i32 px, .int .i32 py, .int .i32 vx, .int .i32 vy]] w fun e w' => e = .returned (.agg #[.int .i32 x, .int .i32 y, .int .i32 z, .int .i32 t]) ∧ Grown w w'
theorem rem (xa ya za ta : Int) (z : Bool) (hz : empB xa ya za ta = z) : REm xa ya za ta z := fun w => by
  by_cases g0 : za < xa
  · obtain rfl : true = z := by rw [← hz]; unfold empB; exact (decide_eq_true (by omega)).symm
    clear hz
    go_enter Tryd.func53, Tryd.ntmps53
    go_wp2
    go_ret
    exact ⟨rfl, (Grown.refl _).alloc _ _⟩
  by_cases g1 : ta < ya
  · obtain rfl : true = z := by rw [← hz]; unfold empB; exact (decide_eq_true (by omega)).symm
    clear hz
    go_enter Tryd.func53, Tryd.ntmps53
    go_wp2
    go_ret
    exact ⟨rfl, (Grown.refl _).alloc _ _⟩
  obtain rfl : false = z := by rw [← hz]; unfold empB; exact (decide_eq_false (by omega)).symm
  clear hz
  go_enter Tryd.func53, Tryd.ntmps53
  go_wp2
  go_ret
  exact ⟨rfl, (Grown.refl _).alloc _ _⟩
theorem rco (xa ya za ta x y : Int) (z : Bool) (hz : conB xa ya za ta x y = z) : RCo xa ya za ta x y z := fun w => by
  by_cases g0 : xa ≤ x
  rotate_left
  · obtain rfl : false = z := by rw [← hz]; unfold conB; exact (decide_eq_false (by omega)).symm
    clear hz
    go_enter Tryd.func26, Tryd.ntmps26
    go_wp2
    go_ret
    exact ⟨rfl, ((Grown.refl _).alloc _ _).alloc _ _⟩
  by_cases g1 : x ≤ za
  rotate_left
  · obtain rfl : false = z := by rw [← hz]; unfold conB; exact (decide_eq_false (by omega)).symm
    clear hz
    go_enter Tryd.func26, Tryd.ntmps26
    go_wp2
    go_ret
    exact ⟨rfl, ((Grown.refl _).alloc _ _).alloc _ _⟩
  by_cases g2 : ya ≤ y
  rotate_left
  · obtain rfl : false = z := by rw [← hz]; unfold conB; exact (decide_eq_false (by omega)).symm
    clear hz
    go_enter Tryd.func26, Tryd.ntmps26
    go_wp2
    go_ret
    exact ⟨rfl, ((Grown.refl _).alloc _ _).alloc _ _⟩
  by_cases g3 : y ≤ ta
  rotate_left
  · obtain rfl : false = z := by rw [← hz]; unfold conB; exact (decide_eq_false (by omega)).symm
    clear hz
    go_enter Tryd.func26, Tryd.ntmps26
    go_wp2
    go_ret
    exact ⟨rfl, ((Grown.refl _).alloc _ _).alloc _ _⟩
  obtain rfl : true = z := by rw [← hz]; unfold conB; exact (decide_eq_true (by omega)).symm
  clear hz
  go_enter Tryd.func26, Tryd.ntmps26
  go_wp2
  go_ret
  exact ⟨rfl, ((Grown.refl _).alloc _ _).alloc _ _⟩
theorem rof (k r ax ay m o px py vx vy u v x y x0 y0 x1 y1 : Int) (C1 : Hid (Rab ax u)) (C2 : Hid (Rab ay v)) (hx : wrap32 (u + r) = x) (hy : wrap32 (v + r) = y) (h0 : wrap32 (px - x) = x0) (h1 : wrap32 (py - y) = y0) (h2 : wrap32 (px + x) = x1) (h3 : wrap32 (py + y) = y1) : ROf k r ax ay m o px py vx vy x0 y0 x1 y1 := fun w => by
  have ex : IntKind.i32.wrap (u + r) = x := by rw [← hx, IntKind.wrap_i32]; unfold wrap32; rfl
  have ey : IntKind.i32.wrap (v + r) = y := by rw [← hy, IntKind.wrap_i32]; unfold wrap32; rfl
  have e0 : IntKind.i32.wrap (px - x) = x0 := by rw [← h0, IntKind.wrap_i32]; unfold wrap32; rfl
  have e1 : IntKind.i32.wrap (py - y) = y0 := by rw [← h1, IntKind.wrap_i32]; unfold wrap32; rfl
  have e2 : IntKind.i32.wrap (px + x) = x1 := by rw [← h2, IntKind.wrap_i32]; unfold wrap32; rfl
  have e3 : IntKind.i32.wrap (py + y) = y1 := by rw [← h3, IntKind.wrap_i32]; unfold wrap32; rfl
  go_enter Tryd.func36, Tryd.ntmps36
  go_wp2_with fail
  go_region_held3 (fun w' => w'.cell? ⟨w.heap.size, 1, none⟩ = some (.int .i32 r) ∧ w'.cell? ⟨w.heap.size, 2, none⟩ = some (.int .i32 ax) ∧ w'.cell? ⟨w.heap.size, 3, none⟩ = some (.int .i32 ay) ∧ w'.cell? ⟨w.heap.size, 6, none⟩ = some (.int .i32 px) ∧ w'.cell? ⟨w.heap.size, 7, none⟩ = some (.int .i32 py) ∧ Grown w w')
    (first
      | (with_reducible assumption)
      | first | exact ⟨by rw [World.cell?_drew, World.cell?_alloc_past _ _ _ (by simp), World.cell?_alloc_at _ _ _ _ rfl]; rfl, by rw [World.cell?_drew, World.cell?_alloc_past _ _ _ (by simp), World.cell?_alloc_at _ _ _ _ rfl]; rfl, by rw [World.cell?_drew, World.cell?_alloc_past _ _ _ (by simp), World.cell?_alloc_at _ _ _ _ rfl]; rfl, by rw [World.cell?_drew, World.cell?_alloc_past _ _ _ (by simp), World.cell?_alloc_at _ _ _ _ rfl]; rfl, by rw [World.cell?_drew, World.cell?_alloc_past _ _ _ (by simp), World.cell?_alloc_at _ _ _ _ rfl]; rfl, (((Grown.refl _).alloc _ _).alloc _ _).drew⟩ | (go_split_ands; exact ⟨by rw [World.cell?_drew]; assumption, by rw [World.cell?_drew]; assumption, by rw [World.cell?_drew]; assumption, by rw [World.cell?_drew]; assumption, by rw [World.cell?_drew]; assumption, Grown.drew (by assumption)⟩))
    (first
      | ((with_reducible refine (C1.out _).mono ?_); rintro e w' ⟨rfl, rfl⟩)
      | ((with_reducible refine (C2.out _).mono ?_); rintro e w' ⟨rfl, rfl⟩))
  go_split_ands
  go_wp2_with fail
  go_region_held3 (fun w' => w'.cell? ⟨w.heap.size, 1, none⟩ = some (.int .i32 r) ∧ w'.cell? ⟨w.heap.size, 2, none⟩ = some (.int .i32 ax) ∧ w'.cell? ⟨w.heap.size, 3, none⟩ = some (.int .i32 ay) ∧ w'.cell? ⟨w.heap.size, 6, none⟩ = some (.int .i32 px) ∧ w'.cell? ⟨w.heap.size, 7, none⟩ = some (.int .i32 py) ∧ Grown w w')
    (first
      | (with_reducible assumption)
      | first | exact ⟨by rw [World.cell?_drew, World.cell?_alloc_past _ _ _ (by simp), World.cell?_alloc_at _ _ _ _ rfl]; rfl, by rw [World.cell?_drew, World.cell?_alloc_past _ _ _ (by simp), World.cell?_alloc_at _ _ _ _ rfl]; rfl, by rw [World.cell?_drew, World.cell?_alloc_past _ _ _ (by simp), World.cell?_alloc_at _ _ _ _ rfl]; rfl, by rw [World.cell?_drew, World.cell?_alloc_past _ _ _ (by simp), World.cell?_alloc_at _ _ _ _ rfl]; rfl, by rw [World.cell?_drew, World.cell?_alloc_past _ _ _ (by simp), World.cell?_alloc_at _ _ _ _ rfl]; rfl, (((Grown.refl _).alloc _ _).alloc _ _).drew⟩ | (go_split_ands; exact ⟨by rw [World.cell?_drew]; assumption, by rw [World.cell?_drew]; assumption, by rw [World.cell?_drew]; assumption, by rw [World.cell?_drew]; assumption, by rw [World.cell?_drew]; assumption, Grown.drew (by assumption)⟩))
    (first
      | ((with_reducible refine (C1.out _).mono ?_); rintro e w' ⟨rfl, rfl⟩)
      | ((with_reducible refine (C2.out _).mono ?_); rintro e w' ⟨rfl, rfl⟩))
  go_split_ands
  go_wp2_with fail
  exact bodyPost_ret (v := .agg #[.int .i32 x0, .int .i32 y0, .int .i32 x1, .int .i32 y1]) (by simp [results, Tryd.results36, go_sem]) rfl ⟨rfl, by first | assumption | exact ((((Grown.refl _).alloc _ _).alloc _ _).drew).drew⟩
end Go.Proofs.YtnmnbogjnjbopaaDoor
end
