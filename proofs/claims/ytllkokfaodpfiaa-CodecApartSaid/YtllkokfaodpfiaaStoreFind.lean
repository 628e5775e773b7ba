/-
  Package store's reference: slices that read as lists of bodies; Find.
-/
import Derived.Test.YtllkokfaodpfiaaGrown
import Derived.Test.YtllkokfaodpfiaaBodies
import Derived.WalkKit
import Derived.Deep.LoopGhost
namespace Go.Proofs.Ytllkokfaodpfiaa
open Go.RowKit Go.Lib

/-- A body's ten cells. -/
def vals (b : Bd) : List Value := [.int .u32 b.k, .int .i32 b.r, .int .i32 b.ax, .int .i32 b.ay, .int .i32 b.m, .int .i32 b.o, .int .i32 b.px, .int .i32 b.py, .int .i32 b.vx, .int .i32 b.vy]
/-- The value v is a slice that reads as the list L of bodies. -/
def Lst (w : World) (v : Value) (L : List Bd) : Prop := (L = [] ∧ ∃ base cap, v = .slice base 0 cap) ∨
  ∃ g off cap, v = .slice (some ⟨g, off, none⟩) L.length cap ∧ ∀ (k : Nat) (b : Bd), L[k]? = some b → ∀ i, i < 10 → w.cell? ⟨g, off + k * 10 + i, none⟩ = (vals b)[i]?
theorem Lst.kept {w w' : World} {v : Value} {L : List Bd} (h : Lst w v L) (g : Grown w w') : Lst w' v L := by
  rcases h with h | ⟨b, o, c, h1, h2⟩
  · exact .inl h
  · refine .inr ⟨b, o, c, h1, fun k x hx i hi => ?_⟩
    have e := h2 k x hx i hi
    have n : i < (vals x).length := hi
    rw [List.getElem?_eq_getElem n] at e ⊢
    exact kept_cell g e

theorem ret_int64 {a b : Int} (h : a = b) : Ending.returned (.int .i64 a) = Ending.returned (.int .i64 b) := by rw [h]
theorem place_drop {L : List Bd} {key : Int} {k : Nat} {b : Bd} (h : L[k]? = some b) : place (L.drop k) key k = if b.k = key then (k : Int) else place (L.drop (k + 1)) key (k + 1) := by
  obtain ⟨hk, e⟩ := List.getElem?_eq_some_iff.1 h
  rw [List.drop_eq_getElem_cons hk, e]
  rfl

end Go.Proofs.Ytllkokfaodpfiaa
