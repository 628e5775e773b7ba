/-
  Package segment: what the laws ask of the program.
-/
import Derived.Test.YtlcenopebgkjgaaSegRef2
import Derived.Test.YtlcenopebgkjgaaPointCon
import Derived.Deep.DeepCutAuto
namespace Go.Proofs.Ytlcenopebgkjgaa
open Go.RowKit Go.Lib

abbrev SCh (px py qx qy mx my nx ny a b c d : Int) : Prop := ∀ w, Calls Try.prog 33 #[.agg #[.int .i32 px, .int .i32 py], .agg #[.int .i32 qx, .int .i32 qy], .agg #[.int .i32 mx, .int .i32 my], .agg #[.int .i32 nx, .int .i32 ny]] w fun e w' => e = .returned (.tuple #[.agg #[.int .i32 a, .int .i32 b], .agg #[.int .i32 c, .int .i32 d]]) ∧ Kep w.heap.size w w'
theorem sg_parts {px py qx qy mx my nx ny : Int} (h : sgB px py qx qy mx my nx ny = true) : Rg px py qx qy mx my ∧ Rg mx my nx ny px py := sg_of h
theorem sg_mk {px py qx qy mx my nx ny : Int} (h1 : Rg px py qx qy mx my) (h2 : Rg mx my nx ny px py) : sgB px py qx qy mx my nx ny = true := by
  unfold sgB
  rw [Bool.and_eq_true]
  exact ⟨rgB_iff.2 h1, rgB_iff.2 h2⟩
theorem sg_swap {px py qx qy mx my nx ny : Int} (h : sgB px py qx qy mx my nx ny = true) : sgB mx my nx ny px py qx qy = true := by
  obtain ⟨h1, h2⟩ := sg_parts h
  exact sg_mk h2 h1
theorem sg_pts {px py qx qy mx my nx ny : Int} (h : sgB px py qx qy mx my nx ny = true) : sgB px py px py mx my mx my = true := by
  obtain ⟨⟨a1, a2, a3, a4, a5, a6, a7, a8⟩, h2⟩ := sg_parts h
  exact sg_mk ⟨a1, a2, a1, a2, a5, a6, by unfold Din; omega, by unfold Din; omega⟩ ⟨a5, a6, a5, a6, a1, a2, by unfold Din; omega, by unfold Din; omega⟩
theorem sg_same {px py qx qy mx my nx ny : Int} (h : sgB px py qx qy mx my nx ny = true) : sgB px py qx qy px py qx qy = true := by
  obtain ⟨⟨a1, a2, a3, a4, a5, a6, a7, a8⟩, h2⟩ := sg_parts h
  exact sg_mk ⟨a1, a2, a3, a4, a1, a2, a7, a8⟩ ⟨a1, a2, a3, a4, a1, a2, a7, a8⟩
end Go.Proofs.Ytlcenopebgkjgaa
