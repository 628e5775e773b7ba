/-
  A block's cells as one fact (no program): a walk's rule for all of them.
-/
import Derived.Test.YtlabeelbbkbkaaaJ05BoxMath
namespace Go.Proofs.Ytlabeelbbkbkaaa
open Go.RowKit Go.Lib

/-- The cells of block b from 0 on are vs: one rule for all of them. -/
abbrev ZA (w : World) (b : Nat) (vs : List Value) : Prop := ∀ i : Nat, i < vs.length → w.cell? ⟨b, i, none⟩ = vs[i]?
theorem za_of {w : World} {b : Nat} {vs : List Value} (h : ZC w b vs) : ZA w b vs := fun i hi => by
  rw [List.getElem?_eq_getElem hi]
  exact h.at_ i _ (List.getElem?_eq_getElem hi)
theorem za_new (w : World) (l : List Value) (t : TypeId) {b : Nat} (h : b = w.heap.size) : ZA (w.alloc (.cells ⟨l⟩ t)) b l := za_of (zc_new' w l t h)
/-- The cells of an element of a slice, from o on: the first one, and all of them. -/
abbrev ZE (w : World) (g o : Nat) (vs : List Value) : Prop := w.cell? ⟨g, o, none⟩ = vs[0]? ∧ ∀ i : Nat, i < vs.length → w.cell? ⟨g, o + i, none⟩ = vs[i]?
theorem ze_of {w : World} {g o : Nat} {vs : List Value} (h : ∀ i : Nat, i < vs.length → w.cell? ⟨g, o + i, none⟩ = vs[i]?) (hl : 0 < vs.length := by exact Nat.zero_lt_succ _) : ZE w g o vs := ⟨h 0 hl, h⟩
end Go.Proofs.Ytlabeelbbkbkaaa
