/-
  Package view's reference: Diff.
-/
import Derived.Test.YtllkokfaodpfiaaViewTri
import Derived.Deep.RegionLaw
import Derived.Deep.QuietTactic
import Derived.BigQuiet
namespace Go.Proofs.Ytllkokfaodpfiaa
open Go.RowKit Go.Lib

/-- What holds at a round's head: the result's block, the three lists. -/
def DRel (w wr : World) (A R C : List Int) : Prop := (∃ V K, Tri (w.heap.size + 1) wr V K ∧ K 0 = A ∧ K 1 = R ∧ K 2 = C) ∧ (∀ i, i < 3 → wr.cell? ⟨w.heap.size, i, none⟩ = some (.slice none 0 0)) ∧ (∀ i, wr.frozen? ⟨w.heap.size, i, none⟩ = false) ∧ Kep w.heap.size w wr
theorem DRel.cast {w wr : World} {A R C A' R' C' : List Int} (h : DRel w wr A R C) (hA : A = A') (hR : R = R') (hC : C = C') : DRel w wr A' R' C' := by
  subst hA; subst hR; subst hC; exact h
theorem DRel.more {w wr wa w4 : World} {V : Nat → Value} {K : Nat → List Int} (T : Tri (w.heap.size + 1) wr V K) (hb : ∀ i, i < 3 → wr.cell? ⟨w.heap.size, i, none⟩ = some (.slice none 0 0)) (hf : ∀ i, wr.frozen? ⟨w.heap.size, i, none⟩ = false) (hk : Kep w.heap.size w wr) (ga : wr.grownBy wa none) {j : Nat} (hj : j < 3) {x : Int} {g cap : Nat}
    (h4 : w4.ownsRow (w.heap.size + 1 + 1) 42 1 (.slice (some ⟨g, 0, none⟩) ((K j).length + 1) cap) ((K j).length + 1) (kvs (K j) ++ [.int .u32 x])) (g4 : wa.grownBy w4 (V j).ownBlock) (hat : (V j).ownBlock = some g ∨ wa.heap.size ≤ g) :
    DRel w (w4.setCell ⟨w.heap.size + 1, j, none⟩ (.slice (some ⟨g, 0, none⟩) ((K j).length + 1) cap)) (upd K j (K j ++ [x]) 0) (upd K j (K j ++ [x]) 1) (upd K j (K j ++ [x]) 2) := by
  have hs : w.heap.size < wr.heap.size := World.block_lt_of_cell? _ _ (hb 0 (by decide))
  have hs2 := ga.size
  have hs4 := g4.size
  have ne : some w.heap.size ≠ (V j).ownBlock := fun e => by have := ((T.own j hj).lt _ e.symm).1; omega
  have bb : w4.heap[w.heap.size]? = wr.heap[w.heap.size]? := (g4.block _ (by omega) ne).trans (ga.block _ hs (by simp))
  have gs := sc_by w4 (w.heap.size + 1) j (.slice (some ⟨g, 0, none⟩) ((K j).length + 1) cap)
  have bs := (gs.block w.heap.size (by omega) (by simp)).trans bb
  refine ⟨⟨_, _, (T.grown ga).more hj h4 g4 hat, rfl, rfl, rfl⟩, fun i hi => (World.cell?_of_block bs).trans (hb i hi), fun i => (World.frozen?_of_block bs).trans (hf i), ?_⟩
  refine (hk.trans ⟨ga.os, ga.output, ga.size, fun k hk => ga.block k (by omega) (by simp)⟩).trans ⟨gs.os.trans g4.os, gs.output.trans g4.output, Nat.le_trans g4.size gs.size, fun k hk => ?_⟩
  exact (gs.block k (by omega) (by simp; omega)).trans (g4.block k (by omega) (fun e => by have := ((T.own j hj).lt _ e.symm).1; omega))
theorem DRel.drewN {w wr : World} {A R C : List Int} (h : DRel w wr A R C) (n : Nat) : DRel w (wr.drewN n) A R C := by
  obtain ⟨⟨V, K, T, hK⟩, h1, h2, h3⟩ := h
  exact ⟨⟨V, K, T.drewN n, hK⟩, h1, h2, h3.drewN n⟩
theorem app_nil_if {K : List Int} {x : Int} {c : Bool} (h : c = false) : (K ++ if c = true then [x] else []) = K := by simp [h]
theorem app_one_if {K : List Int} {x : Int} {c : Bool} (h : c = true) : (K ++ if c = true then [x] else []) = K ++ [x] := by simp [h]
end Go.Proofs.Ytllkokfaodpfiaa
