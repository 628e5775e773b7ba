/-
  Package integrate: what the laws ask of the program.
-/
import Derived.Test.YtlabeelbbkbkaaaIntRef2
import Derived.Test.YtlabeelbbkbkaaaIntRef3
import Derived.Test.YtlabeelbbkbkaaaJ06ViewMath
import Derived.Test.YtlabeelbbkbkaaaShSlice
import Derived.Test.YtlabeelbbkbkaaaJ03StorePut
import Derived.Deep.DeepCutAuto
import Derived.Deep.QuietTactic
import Derived.BigQuiet
namespace Go.Proofs.Ytlabeelbbkbkaaa
open Go.RowKit Go.Lib

abbrev YGr : Prop := ∀ v L w, Lst w v L → L.length ≤ 1000 → (∀ x ∈ L, okI x) → Calls Try.prog 11 #[v] w fun e w' => ∃ v', e = .returned (.tuple #[v', .bool (L.any grvC)]) ∧ Lst w' v' (L.map grvB) ∧ Kep w.heap.size w w'
abbrev YMv : Prop := ∀ v L s S w, Lst w v L → Sq shv 2 w s S → L.length ≤ 1000 → S.length = L.length → (∀ x ∈ L, okI x) → (∀ y ∈ S, Sin y) → Calls Try.prog 13 #[v, s] w fun e w' => ∃ v', e = .returned (.tuple #[v', .bool ((mtA L S).any id)]) ∧ Lst w' v' (mtL L S) ∧ Kep w.heap.size w w'
abbrev YPs (x : Bd) (j k : Int) : Prop := ∀ w, Calls Try.prog 17 #[.agg #[.int .u32 x.k, .int .i32 x.r, .int .i32 x.ax, .int .i32 x.ay, .int .i32 x.m, .int .i32 x.o, .int .i32 x.px, .int .i32 x.py, .int .i32 x.vx, .int .i32 x.vy], .agg #[.int .i32 j, .int .i32 k]] w fun e w' => e = .returned (psV x j k) ∧ Kep w.heap.size w w'
/-- What the laws ask of the program. -/
structure YOps : Prop where
  grv : YGr
  mvq : YMv
  psh : ∀ {x : Bd} {j k : Int}, okI x → (-2147483648 ≤ j ∧ j < 2147483648) → (-2147483648 ≤ k ∧ k < 2147483648) → YPs x j k
abbrev YAwake : Prop := ∀ w, Calls Try.prog 9 #[] w fun e w' => e = .returned (.bool true) ∧ Kep w.heap.size w w'
/-- The reference's check of a body. -/
abbrev YCk (x : Bd) (c : Int) : Prop := ∀ w, Calls Try.prog 19 #[.agg #[.int .u32 x.k, .int .i32 x.r, .int .i32 x.ax, .int .i32 x.ay, .int .i32 x.m, .int .i32 x.o, .int .i32 x.px, .int .i32 x.py, .int .i32 x.vx, .int .i32 x.vy]] w fun e w' => e = .returned (.int .i64 c) ∧ Kep w.heap.size w w'
theorem lst_one {w : World} {g : Nat} {x : Bd} (h : ZC w g (vals x)) : Lst w (.slice (some ⟨g, 0, none⟩) 1 1) [x] := by
  refine .inr ⟨g, 0, 1, rfl, fun k y hy i hi => ?_⟩
  have hk : k = 0 := by have := (List.getElem?_eq_some_iff.1 hy).1; simp at this; omega
  subst hk
  have e : x = y := by simpa using hy
  subst e
  have hl : i < (vals x).length := hi
  rw [Nat.zero_mul, Nat.add_zero, Nat.zero_add, List.getElem?_eq_getElem hl]
  exact h.at_ i _ (List.getElem?_eq_getElem hl)
theorem one_at {w : World} {v : Value} {y : Bd} (h : Lst w v [y]) : ∃ g off c, v = .slice (some ⟨g, off, none⟩) 1 c ∧ ∀ i, i < 10 → w.cell? ⟨g, off + i, none⟩ = (vals y)[i]? := by
  obtain ⟨b, c, rfl⟩ := h.shape
  obtain ⟨g, off, rfl, q⟩ := h.at_ (k := 0) rfl
  refine ⟨g, off, c, rfl, fun i hi => ?_⟩
  have := q i hi
  rw [Nat.zero_mul, Nat.add_zero] at this
  exact this
theorem yck (x : Bd) : YCk x (chk x.r x.ax x.ay x.m x.o x.px x.py x.vx x.vy) := fun w => kep_calls (rck x.k x.r x.ax x.ay x.m x.o x.px x.py x.vx x.vy _ rfl w)
end Go.Proofs.Ytlabeelbbkbkaaa
