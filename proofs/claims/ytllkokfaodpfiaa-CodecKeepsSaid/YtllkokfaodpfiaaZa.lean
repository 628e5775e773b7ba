/-
  A block's cells as one fact (no program): a walk's rule for all of them.
-/
import Derived.Test.YtllkokfaodpfiaaBlk
namespace Go.Proofs.Ytllkokfaodpfiaa
open Go.RowKit Go.Lib

/-- The cells of block b from 0 on are vs: one rule for all of them. -/
abbrev ZA (w : World) (b : Nat) (vs : List Value) : Prop := ∀ i : Nat, i < vs.length → w.cell? ⟨b, i, none⟩ = vs[i]?
theorem za_kep {w w' : World} {b : Nat} {vs : List Value} (h : ZA w b vs) (g : Kep w.heap.size w w') : ZA w' b vs := fun i hi => by
  have e := h i hi
  rw [List.getElem?_eq_getElem hi] at e ⊢
  exact g.all e
theorem za_lt {w : World} {b : Nat} {v : Value} {vs : List Value} (h : ZA w b (v :: vs)) : b < w.heap.size := World.block_lt_of_cell? w ⟨b, 0, none⟩ ((h 0 (by simp)).trans rfl)
theorem za_at {w : World} {b : Nat} {vs : List Value} (h : ZA w b vs) {i : Nat} {u : Value} (hu : vs[i]? = some u) : w.cell? ⟨b, i, none⟩ = some u := (h i (List.getElem?_eq_some_iff.1 hu).1).trans hu
theorem za_of {w : World} {b : Nat} {vs : List Value} (h : ZC w b vs) : ZA w b vs := fun i hi => by
  rw [List.getElem?_eq_getElem hi]
  exact h.at_ i _ (List.getElem?_eq_getElem hi)
theorem za_new (w : World) (l : List Value) (t : TypeId) {b : Nat} (h : b = w.heap.size) : ZA (w.alloc (.cells ⟨l⟩ t)) b l := za_of (zc_new' w l t h)
theorem za_more {w : World} {b : Nat} {vs : List Value} (h : ZA w b vs) (o : Obj) : ZA (w.alloc o) b vs := za_kep h (kep_more (Kep.refl _ _) o)
/-- The cells of an element of a slice, from o on: the first one, and all of them. -/
abbrev ZE (w : World) (g o : Nat) (vs : List Value) : Prop := w.cell? ⟨g, o, none⟩ = vs[0]? ∧ ∀ i : Nat, i < vs.length → w.cell? ⟨g, o + i, none⟩ = vs[i]?
theorem ze_of {w : World} {g o : Nat} {vs : List Value} (h : ∀ i : Nat, i < vs.length → w.cell? ⟨g, o + i, none⟩ = vs[i]?) (hl : 0 < vs.length := by exact Nat.zero_lt_succ _) : ZE w g o vs := ⟨h 0 hl, h⟩
theorem ze_kep {w w' : World} {g o : Nat} {vs : List Value} (h : ZE w g o vs) (k : Kep w.heap.size w w') (hl : 0 < vs.length := by exact Nat.zero_lt_succ _) : ZE w' g o vs := ze_of (fun i hi => by
  have e := h.2 i hi
  rw [List.getElem?_eq_getElem hi] at e ⊢
  exact k.all e) hl
/-- A block of the entry's, behind the first call. -/
theorem zK {w w' : World} {b : Nat} {vs : List Value} (g : Kep w.heap.size w w') (h : ZA w b vs := by repeat (first | exact za_new _ _ _ (by first | rfl | simp) | refine za_more ?_ _ | refine za_kep ?_ (kep_drew (Kep.refl _ _)))) : ZA w' b vs := za_kep h g
/-- A cell of it. -/
theorem zI {w : World} {b : Nat} {vs : List Value} (h : ZA w b vs) (i : Nat) {u : Value} (hu : vs[i]? = some u := by rfl) : w.cell? ⟨b, i, none⟩ = some u := za_at h hu
end Go.Proofs.Ytllkokfaodpfiaa
