/-
  The package-level table that package cell reads: its two cells, and that a call keeps them.
-/
import Derived.Test.YtnmnbogjnjbopaaDoorSeq
namespace Go.Proofs.YtnmnbogjnjbopaaDoor
open Go.RowKit

/-- The table's cells hold its two numbers. -/
structure Fac (w : World) : Prop where
  x : w.cell? ⟨0, 0, none⟩ = some (.int .u32 73856093)
  y : w.cell? ⟨0, 1, none⟩ = some (.int .u32 19349663)
theorem Fac.kep {w w' : World} (h : Fac w) (g : Kep w.heap.size w w') : Fac w' := ⟨Kep.all g h.x, Kep.all g h.y⟩
theorem Fac.lt {w : World} (h : Fac w) : 0 < w.heap.size := World.block_lt_of_cell? _ _ h.x
theorem Fac.drew {w : World} (h : Fac w) : Fac w.drew := ⟨by rw [World.cell?_drew]; exact h.x, by rw [World.cell?_drew]; exact h.y⟩
theorem Fac.alloc {w : World} (h : Fac w) (o : Obj) : Fac (w.alloc o) := h.kep (Kep.alloc (Kep.refl _ _) (Nat.le_refl _) o)
end Go.Proofs.YtnmnbogjnjbopaaDoor
