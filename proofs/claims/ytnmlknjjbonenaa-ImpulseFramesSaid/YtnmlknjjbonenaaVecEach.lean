/-
  Package vec: a function applied to both components, for each function that the program hands it.
-/
import Derived.Test.YtnmlknjjbonenaaFxRef
import Derived.Test.YtnmlknjjbonenaaGrown
import Derived.Test.YtnmlknjjbonenaaRootCon
import Derived.Deep.QuietTactic
import Derived.BigQuiet
import Derived.Deep.RegionHeld3
import Derived.StillTailTactics
namespace Go.Proofs.Ytnmlknjjbonenaa
open Go.RowKit Go.Lib

abbrev Pro2 (a b q : Int) : Prop := ∀ w, Calls Try.prog 27 #[.int .i32 a, .int .i32 b] w fun e w' => e = .returned (.int .i64 q) ∧ Grown w w'
theorem pro2 {a b q : Int} (ha : I32 a) (hb : I32 b) (hq : a * b = q) : Pro2 a b q := fun w => by
  have h := mul32 ha hb
  rw [hq] at h
  have hw : IntKind.i64.wrap q = q := by rw [IntKind.wrap_i64]; omega
  have hw2 : wrap64 q = q := by unfold wrap64; omega
  obtain ⟨h1, h2⟩ := ha; obtain ⟨h3, h4⟩ := hb
  refine grow ?_
  go_enter Try.func27, Try.ntmps27
  go_wp2
  go_ret
  exact ⟨rfl, rfl⟩

theorem each_pro (a b c d : Int) (ha : I32 a) (hb : I32 b) (hc : I32 c) (hd : I32 d) (w : World) :
    Calls Try.prog 26 #[.func (.func 27) #[] #[], .agg #[.int .i32 a, .int .i32 b], .agg #[.int .i32 c, .int .i32 d]] w fun e w' => e = .returned (.tuple #[.int .i64 (a * c), .int .i64 (b * d)]) ∧ Grown w w' := by
  have C1 := Lib.hid (pro2 ha hc rfl)
  have C2 := Lib.hid (pro2 hb hd rfl)
  go_enter Try.func26, Try.ntmps26
  go_wp2
  go_region_held3 (fun w' => w'.cell? ⟨w.heap.size, 0, none⟩ = some (.int .i32 a) ∧ w'.cell? ⟨w.heap.size, 1, none⟩ = some (.int .i32 b) ∧ w'.cell? ⟨w.heap.size + 1, 0, none⟩ = some (.int .i32 c) ∧ w'.cell? ⟨w.heap.size + 1, 1, none⟩ = some (.int .i32 d) ∧ w.heap.size + 2 ≤ w'.heap.size ∧ Grown w w')
    (first | exact ⟨by go_keep, by go_keep, by go_keep, by go_keep, by simp, ((Grown.refl _).alloc _ _ |>.alloc _ _).drew⟩ | (go_split_ands; exact ⟨by rw [gc _ _ (by omega)]; assumption, by rw [gc _ _ (by omega)]; assumption, by rw [gc _ _ (by omega)]; assumption, by rw [gc _ _ (by omega)]; assumption, by omega, grown_trans (by assumption) g⟩))
    (first
      | ((with_reducible refine (C1.out _).mono ?_); rintro e w1 ⟨rfl, g⟩; obtain ⟨gc, gf, gz⟩ := gcell g)
      | ((with_reducible refine (C2.out _).mono ?_); rintro e w1 ⟨rfl, g⟩; obtain ⟨gc, gf, gz⟩ := gcell g))
  go_wp2
  go_ret2
  rename_i hh
  exact ⟨rfl, hh.2.2.2.2.2⟩

end Go.Proofs.Ytnmlknjjbonenaa
