/-
  Package body: the conditions of validity as function values, and what they answer.
-/
import Derived.Test.YtlcenopebgkjgaaGrown
import Derived.Deep.DeepCutAuto
namespace Go.Proofs.Ytlcenopebgkjgaa
open Go.RowKit Go.Lib

/-- The cells of the blocks from B on are as they were. -/
def Keeps (B : Nat) (w w' : World) : Prop := ∀ b o v, B ≤ b → w.cell? ⟨b, o, none⟩ = some v → w'.cell? ⟨b, o, none⟩ = some v
theorem Keeps.refl (B : Nat) (w : World) : Keeps B w w := fun _ _ _ _ h => h
theorem Keeps.grown {B : Nat} {w w' w'' : World} (h : Keeps B w w') (g : Grown w' w'') : Keeps B w w'' := fun b o v hb hv => kept_cell g (h b o v hb hv)
theorem Keeps.drew {B : Nat} {w w' : World} (h : Keeps B w w') : Keeps B w w'.drew := h
theorem Keeps.alloc {B : Nat} {w w' : World} (h : Keeps B w w') (c : Array Value) (t : TypeId) : Keeps B w (w'.alloc (.cells c t)) := h.grown ((Grown.refl _).alloc _ _)
theorem Keeps.below {B X o : Nat} {w w' : World} {u : Value} (h : Keeps B w w') (hx : X < B) : Keeps B w (w'.setCell ⟨X, o, none⟩ u) := fun b _ v hb hv => setc_far (h b _ v hb hv) (by simp; omega)
theorem Keeps.above {B X o : Nat} {w w' : World} {u : Value} (h : Keeps B w w') (hx : w.heap.size ≤ X) : Keeps B w (w'.setCell ⟨X, o, none⟩ u) := fun b _ v hb hv => setc_far (h b _ v hb hv) (by
  have := World.block_lt_of_cell? _ _ hv
  simp at this ⊢; omega)
end Go.Proofs.Ytlcenopebgkjgaa
