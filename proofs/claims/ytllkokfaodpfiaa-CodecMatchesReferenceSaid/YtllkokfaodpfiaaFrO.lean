/-
  What a call keeps that writes into one block, or into two; one cell of a block written (no program).
-/
import Derived.Test.YtllkokfaodpfiaaBlk
namespace Go.Proofs.Ytllkokfaodpfiaa
open Go.RowKit Go.Lib

/-- Every block that was there, but a and b, is as it was. -/
structure FrO (a b : Nat) (w w' : World) : Prop where
  os : w'.os = w.os
  output : w'.output = w.output
  size : w.heap.size ≤ w'.heap.size
  block : ∀ k, k < w.heap.size → k ≠ a → k ≠ b → w'.heap[k]? = w.heap[k]?
theorem FrO.refl (a b : Nat) (w : World) : FrO a b w w := ⟨rfl, rfl, Nat.le_refl _, fun _ _ _ _ => rfl⟩
theorem FrO.trans {a b : Nat} {w w' w'' : World} (h : FrO a b w w') (k : FrO a b w' w'') : FrO a b w w'' :=
  ⟨k.os.trans h.os, k.output.trans h.output, Nat.le_trans h.size k.size, fun i hi n m => (k.block i (Nat.lt_of_lt_of_le hi h.size) n m).trans (h.block i hi n m)⟩
theorem FrO.of_kep {a b : Nat} {w w' : World} (g : Kep w.heap.size w w') : FrO a b w w' := ⟨g.os, g.output, g.size, fun k hk _ _ => g.block k hk⟩
theorem FrO.kep {a b : Nat} {w w' w'' : World} (h : FrO a b w w') (g : Kep w'.heap.size w' w'') : FrO a b w w'' := h.trans (.of_kep g)
theorem FrO.set1 {a b o : Nat} {w w' : World} (h : FrO a b w w') (u : Value) : FrO a b w (w'.setCell ⟨a, o, none⟩ u) :=
  ⟨h.os, h.output, by rw [World.size_setCell]; exact h.size, fun i hi n m => by rw [Below.heap_setCell _ _ _ i (fun e => n e)]; exact h.block i hi n m⟩
theorem FrO.cell {a b : Nat} {w w' : World} (h : FrO a b w w') {c o : Nat} {v : Value} (h1 : c ≠ a) (h2 : c ≠ b) (hc : w.cell? ⟨c, o, none⟩ = some v) : w'.cell? ⟨c, o, none⟩ = some v :=
  (World.cell?_of_block (w := w) (h.block c (World.block_lt_of_cell? _ _ hc) h1 h2)).trans hc
theorem FrO.down {a b B : Nat} {w w' : World} (h : FrO a b w w') (h1 : B ≤ a) (h2 : B ≤ b) (h3 : B ≤ w.heap.size) : Kep B w w' := ⟨h.os, h.output, h.size, fun k hk => h.block k (by omega) (by omega) (by omega)⟩
/-- One cell of a block written. -/
theorem ZC.put {w : World} {b : Nat} {vs : List Value} (h : ZC w b vs) {i : Nat} (u : Value) (hi : i < vs.length) : ZC (w.setCell ⟨b, i, none⟩ u) b (vs.set i u) := by
  refine ⟨fun j v hj => ?_, fun j => by rw [World.frozen?_setCell]; exact h.frz j, by rw [World.size_setCell]; exact h.lt⟩
  by_cases c : j = i
  · subst c
    rw [List.getElem?_set_self hi] at hj
    injection hj with hj
    subst hj
    exact World.cell?_setCell_same' _ _ _ (by rw [h.at_ j _ (List.getElem?_eq_getElem hi)]; rfl)
  · rw [List.getElem?_set_ne (fun e => c e.symm)] at hj
    rw [World.cell?_setCell_other (h := by intro e; injection e with _ e2; omega)]
    exact h.at_ j v hj
/-- A cell of another block written. -/
theorem ZC.far1 {w : World} {b c i : Nat} {vs : List Value} (h : ZC w c vs) (hc : c ≠ b) (u : Value) : ZC (w.setCell ⟨b, i, none⟩ u) c vs :=
  ⟨fun j v hj => sset_far (h.at_ j v hj) (fun e => hc e.symm), fun j => by rw [World.frozen?_setCell]; exact h.frz j, by rw [World.size_setCell]; exact h.lt⟩
end Go.Proofs.Ytllkokfaodpfiaa
