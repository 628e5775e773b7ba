/-
  What a call keeps: the blocks below B are as they were (no word on the tape, none on what new blocks are).
-/
import Derived.Test.YtllkokfaodpfiaaGrown
import Derived.WalkKit
namespace Go.Proofs.Ytllkokfaodpfiaa
open Go.RowKit

structure Kep (B : Nat) (w w' : World) : Prop where
  os : w'.os = w.os
  output : w'.output = w.output
  size : w.heap.size ≤ w'.heap.size
  block : ∀ k, k < B → w'.heap[k]? = w.heap[k]?

theorem Kep.refl (B : Nat) (w : World) : Kep B w w := ⟨rfl, rfl, Nat.le_refl _, fun _ _ => rfl⟩
theorem Kep.trans {B : Nat} {a b c : World} (h : Kep B a b) (k : Kep B b c) : Kep B a c := ⟨k.os.trans h.os, k.output.trans h.output, Nat.le_trans h.size k.size, fun i hi => (k.block i hi).trans (h.block i hi)⟩
theorem Kep.mono {B B' : Nat} {w w' : World} (h : Kep B w w') (hB : B' ≤ B) : Kep B' w w' := ⟨h.os, h.output, h.size, fun k hk => h.block k (by omega)⟩
theorem Kep.of_below {B : Nat} {w w' : World} (h : Below B w w') : Kep B w w' := ⟨h.os, h.output, h.size, h.block⟩
theorem Kep.drew {B : Nat} {a w : World} (h : Kep B a w) : Kep B a w.drew := ⟨h.os, h.output, h.size, h.block⟩
theorem Kep.alloc {B : Nat} {a w : World} (h : Kep B a w) (hB : B ≤ w.heap.size) (o : Obj) : Kep B a (w.alloc o) := h.trans (Kep.of_below ((Below.refl _ _).alloc hB o))
theorem Kep.setCell {B : Nat} {a w : World} (h : Kep B a w) {p : Addr} (hp : B ≤ p.block) (u : Value) : Kep B a (w.setCell p u) := h.trans (Kep.of_below ((Below.refl _ _).setCell hp u))
theorem Kep.row {B : Nat} {a w w' : World} {row : Option Nat} (h : Kep B a w) (hg : w.grownBy w' row) (hB : B ≤ w.heap.size) (hr : ∀ k, row = some k → B ≤ k) : Kep B a w' := h.trans (Kep.of_below ((Below.refl _ _).grown hg hB hr))
theorem Kep.of_grown {w w' : World} (h : Grown w w') : Kep w.heap.size w w' := by
  obtain ⟨⟨h1, h2, h3⟩, _, h4⟩ := h
  refine ⟨h1, h2, h4, fun k hk => ?_⟩
  have g := h3 k hk
  split at g
  · rename_i c t fr c' t' fr' e e'
    obtain ⟨rfl, rfl, hs, hc⟩ := g
    rw [e, e']
    have : c' = c := Array.ext_getElem? fun j => hc j (fun x => x)
    rw [this]
  · rename_i es clock es' clock' e e'
    rw [e, e']
    rcases g with g | ⟨rfl, rfl⟩
    · exact g.elim
    · rfl
  · exact g
theorem Kep.cell {B : Nat} {w w' : World} (h : Kep B w w') {p : Addr} (hp : p.block < B) : w'.cell? p = w.cell? p := World.cell?_of_block (w := w) (h.block p.block hp)
theorem Kep.frozen {B : Nat} {w w' : World} (h : Kep B w w') {p : Addr} (hp : p.block < B) : w'.frozen? p = w.frozen? p := World.frozen?_of_block (w := w) (h.block p.block hp)
theorem Kep.holds {B : Nat} {w w' : World} (h : Kep B w w') {b o : Nat} {v : Value} (hp : b < B) (hv : w.cell? ⟨b, o, none⟩ = some v) : w'.cell? ⟨b, o, none⟩ = some v := (h.cell (p := ⟨b, o, none⟩) hp).trans hv
theorem Kep.all {w w' : World} (h : Kep w.heap.size w w') {a : Addr} {v : Value} (hv : w.cell? a = some v) : w'.cell? a = some v := (h.cell (World.block_lt_of_cell? _ _ hv)).trans hv
theorem Kep.frame {W w' : World} (h : Kep W.heap.size W w') (may : MemPlace → Prop) : W.keptBut w' may := by
  refine ⟨h.os, h.output, fun i hi => ?_⟩
  rw [h.block i hi]
  split <;> simp_all
end Go.Proofs.Ytllkokfaodpfiaa
