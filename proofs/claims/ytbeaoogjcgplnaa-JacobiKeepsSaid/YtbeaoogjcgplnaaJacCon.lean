/-
  Package jacobi: what the laws ask of the program.
-/
import Derived.Test.YtbeaoogjcgplnaaJacRef4
import Derived.Test.YtbeaoogjcgplnaaCtSlice
import Derived.Test.YtbeaoogjcgplnaaJ03StorePut
import Derived.Deep.DeepCutAuto
namespace Go.Proofs.Ytbeaoogjcgplnaa
open Go.RowKit Go.Lib

/-- What P17 asks of a view and its contacts. -/
structure JArg (L : List Bd) (C : List Ct) : Prop where
  vw : Vw L
  few : C.length ≤ 100
  rg : ∀ c ∈ C, RgC L c
theorem JArg.vb {L : List Bd} {C : List Ct} (h : JArg L C) : ∀ x ∈ L, Vb x := fun x hx => vb_of (h.vw.ok x hx)
/-- A result of the call's own: its block is new, and can be written. -/
def NewZ (w : World) (v : Value) (w' : World) : Prop := ∀ g, v.ownBlock = some g → w.heap.size ≤ g ∧ ∀ o, w'.frozen? ⟨g, o, none⟩ = false
abbrev JSums : Prop := ∀ v L l C w, Lst w v L → Sq ctv 5 w l C → JArg L C → Calls Try.prog 11 #[v, l] w fun e w' => ∃ v1 v2, e = .returned (.tuple #[v1, v2]) ∧ (Sq nv 1 w' v1 (L.map (sumJ (·.nx) L C)) ∧ Sq nv 1 w' v2 (L.map (sumJ (·.ny) L C))) ∧ Kep w.heap.size w w'
abbrev JRnd : Prop := ∀ v L l C w, Lst w v L → Sq ctv 5 w l C → JArg L C → Calls Try.prog 12 #[v, l] w fun e w' => ∃ v', e = .returned (.tuple #[v', .bool (clL L C)]) ∧ Lst w' v' (rndL L C) ∧ Kep w.heap.size w w'
abbrev JSlv : Prop := ∀ v L l C w, Lst w v L → Sq ctv 5 w l C → JArg L C → Calls Try.prog 14 #[v, l] w fun e w' => ∃ v', e = .returned (.tuple #[v', .bool (slvN C L 4).2]) ∧ (Lst w' v' (slvN C L 4).1 ∧ NewZ w v' w') ∧ Kep w.heap.size w w'
/-- What the laws ask of the program. -/
structure JOps : Prop where
  sums : JSums
  round : JRnd
  solve : JSlv
abbrev JAwake : Prop := ∀ w, Calls Try.prog 9 #[] w fun e w' => e = .returned (.bool true) ∧ Kep w.heap.size w w'
theorem info_ctJ : (Try.prog.info? 41).map (fun i => (i.zero, i.size, i.bytes)) = some (some (.agg #[.int .u32 0, .int .u32 0, .int .i32 0, .int .i32 0, .int .i32 0]), 5, 20) := by kernel_rfl
theorem jarg {L : List Bd} {C : List Ct} (h : Vw L) (hr : rgtJ L C = true) : JArg L C := ⟨h, (rgtJ_iff.1 hr).1, (rgtJ_iff.1 hr).2⟩
end Go.Proofs.Ytbeaoogjcgplnaa
