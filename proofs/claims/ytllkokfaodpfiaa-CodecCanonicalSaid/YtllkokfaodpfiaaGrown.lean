/-
  Worlds that grow, and ranges of numbers.
-/
import Derived.Test.YtllkokfaodpfiaaWide
import Derived.Test.YtllkokfaodpfiaaFx
import Derived.Deep.RegionHeld3
namespace Go.Proofs.Ytllkokfaodpfiaa
open Go.RowKit Go.Lib

theorem grown_trans {a b c : World} (h1 : Grown a b) (h2 : Grown b c) : Grown a c :=
  ⟨World.keptBut_trans h1.1 h2.1, fun a => (h2.2.1 a).trans (h1.2.1 a), Nat.le_trans h1.2.2 h2.2.2⟩
theorem gcell {W w1 : World} (g : Grown W w1) : (∀ b o, b < W.heap.size → w1.cell? ⟨b, o, none⟩ = W.cell? ⟨b, o, none⟩) ∧ (∀ b o, w1.frozen? ⟨b, o, none⟩ = W.frozen? ⟨b, o, none⟩) ∧ W.heap.size ≤ w1.heap.size :=
  ⟨fun _ _ h => g.1.cell h (fun x => x), fun b o => g.2.1 ⟨b, o, none⟩, g.2.2⟩
theorem kept_cell {W w1 : World} (g : Grown W w1) {b o : Nat} {v : Value} (h : W.cell? ⟨b, o, none⟩ = some v) : w1.cell? ⟨b, o, none⟩ = some v := by
  rw [(gcell g).1 b o (World.block_lt_of_cell? _ _ h)]; exact h
theorem setc_far {W : World} {p a : Addr} {v u : Value} (h : W.cell? a = some u) (c : p.block ≠ a.block) : (W.setCell p v).cell? a = some u := by
  rw [World.cell?_setCell_far _ _ _ _ c]; exact h
end Go.Proofs.Ytllkokfaodpfiaa
