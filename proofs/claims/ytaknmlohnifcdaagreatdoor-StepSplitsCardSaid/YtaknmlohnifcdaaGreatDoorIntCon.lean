/-
  Package integrate: what the laws ask of the program.
-/
import Derived.Test.YtaknmlohnifcdaaGreatDoorJ04PointRef
import Derived.Test.YtaknmlohnifcdaaGreatDoorJ02Seq
import Derived.Test.YtaknmlohnifcdaaGreatDoorJ01Bodies
import Derived.Test.YtaknmlohnifcdaaGreatDoorJ00Bits
import Derived.Test.YtaknmlohnifcdaaGreatDoorJ18ViewMath
import Derived.Test.YtaknmlohnifcdaaGreatDoorJ06StorePut
import Derived.Deep.DeepCutAuto
import Derived.Deep.QuietTactic
import Derived.BigQuiet
import Derived.Test.YtaknmlohnifcdaaGreatDoorFrO
import Derived.Test.YtaknmlohnifcdaaGreatDoorShSlice
namespace Go.Proofs.YtaknmlohnifcdaaGreatDoor
open Go.RowKit Go.Lib

abbrev YGr : Prop := ∀ v L w, Lst w v L → L.length ≤ 1000 → (∀ x ∈ L, okI x) → Calls Tryz.prog 38 #[v] w fun e w' => ∃ v', e = .returned (.tuple #[v', .bool (L.any grvC)]) ∧ Lst w' v' (L.map grvB) ∧ Kep w.heap.size w w'
/-- The reference's check of a body. -/
abbrev YCk (x : Bd) (c : Int) : Prop := ∀ w, Calls Tryz.prog 18 #[.agg #[.int .u32 x.k, .int .i32 x.r, .int .i32 x.ax, .int .i32 x.ay, .int .i32 x.m, .int .i32 x.o, .int .i32 x.px, .int .i32 x.py, .int .i32 x.vx, .int .i32 x.vy]] w fun e w' => e = .returned (.int .i64 c) ∧ Kep w.heap.size w w'
theorem lst_one {w : World} {g : Nat} {x : Bd} (h : ZC w g (vals x)) : Lst w (.slice (some ⟨g, 0, none⟩) 1 1) [x] := by
  refine .inr ⟨g, 0, 1, rfl, fun k y hy i hi => ?_⟩
  have hk : k = 0 := by have := (List.getElem?_eq_some_iff.1 hy).1; simp at this; omega
  subst hk
  have e : x = y := by simpa using hy
  subst e
  have hl : i < (vals x).length := hi
  rw [Nat.zero_mul, Nat.add_zero, Nat.zero_add, List.getElem?_eq_getElem hl]
  exact h.at_ i _ (List.getElem?_eq_getElem hl)
theorem one_at {w : World} {v : Value} {y : Bd} (h : Lst w v [y]) : ∃ g off c, v = .slice (some ⟨g, off, none⟩) 1 c ∧ ∀ i, i < 10 → w.cell? ⟨g, off + i, none⟩ = (vals y)[i]? := by
  obtain ⟨b, c, rfl⟩ := h.shape
  obtain ⟨g, off, rfl, q⟩ := h.at_ (k := 0) rfl
  refine ⟨g, off, c, rfl, fun i hi => ?_⟩
  have := q i hi
  rw [Nat.zero_mul, Nat.add_zero] at this
  exact this
theorem yck (x : Bd) : YCk x (chk x.r x.ax x.ay x.m x.o x.px x.py x.vx x.vy) := fun w => kep_calls (rck x.k x.r x.ax x.ay x.m x.o x.px x.py x.vx x.vy _ rfl w)
end Go.Proofs.YtaknmlohnifcdaaGreatDoor
