/-
  Package store's reference: Same, of two slices that read as one list.
-/
import Derived.Test.YtnmnbogjnjbopaaDoorStoreRef
namespace Go.Proofs.YtnmnbogjnjbopaaDoor
open Go.RowKit Go.Lib

theorem body_neq (x : Bd) (w : World) : (binOp .neq 69 (.agg #[.int .u32 x.k, .int .i32 x.r, .int .i32 x.ax, .int .i32 x.ay, .int .i32 x.m, .int .i32 x.o, .int .i32 x.px, .int .i32 x.py, .int .i32 x.vx, .int .i32 x.vy]) (.agg #[.int .u32 x.k, .int .i32 x.r, .int .i32 x.ax, .int .i32 x.ay, .int .i32 x.m, .int .i32 x.o, .int .i32 x.px, .int .i32 x.py, .int .i32 x.vx, .int .i32 x.vy])).run Tryd.prog w = .ok (.bool false) w := by
  simp [go_sem]
theorem old_cells {w wr : World} {x : Bd} {g off k : Nat} (h : Kep w.heap.size w wr) (hc : ∀ i, i < 10 → w.cell? ⟨g, off + k * 10 + i, none⟩ = (vals x)[i]?) : wr.cell? ⟨g, off + k * 10, none⟩ = some (.int .u32 x.k) ∧ wr.cell? ⟨g, off + k * 10 + 1, none⟩ = some (.int .i32 x.r) ∧ wr.cell? ⟨g, off + k * 10 + 2, none⟩ = some (.int .i32 x.ax) ∧ wr.cell? ⟨g, off + k * 10 + 3, none⟩ = some (.int .i32 x.ay) ∧ wr.cell? ⟨g, off + k * 10 + 4, none⟩ = some (.int .i32 x.m) ∧ wr.cell? ⟨g, off + k * 10 + 5, none⟩ = some (.int .i32 x.o) ∧ wr.cell? ⟨g, off + k * 10 + 6, none⟩ = some (.int .i32 x.px) ∧ wr.cell? ⟨g, off + k * 10 + 7, none⟩ = some (.int .i32 x.py) ∧ wr.cell? ⟨g, off + k * 10 + 8, none⟩ = some (.int .i32 x.vx) ∧ wr.cell? ⟨g, off + k * 10 + 9, none⟩ = some (.int .i32 x.vy) :=
  have f : ∀ (i : Nat) (v : Value), i < 10 → (vals x)[i]? = some v → wr.cell? ⟨g, off + k * 10 + i, none⟩ = some v := fun i v hi hv => h.all ((hc i hi).trans hv)
  ⟨f 0 _ (by decide) rfl, f 1 _ (by decide) rfl, f 2 _ (by decide) rfl, f 3 _ (by decide) rfl, f 4 _ (by decide) rfl, f 5 _ (by decide) rfl, f 6 _ (by decide) rfl, f 7 _ (by decide) rfl, f 8 _ (by decide) rfl, f 9 _ (by decide) rfl⟩
theorem Lst.full {w : World} {v : Value} {L : List Bd} (h : Lst w v L) (hL : L ≠ []) : ∃ g off cap, v = .slice (some ⟨g, off, none⟩) L.length cap ∧ ∀ (k : Nat) (b : Bd), L[k]? = some b → ∀ i, i < 10 → w.cell? ⟨g, off + k * 10 + i, none⟩ = (vals b)[i]? := by
  rcases h with ⟨h, _⟩ | h
  · exact absurd h hL
  · exact h

end Go.Proofs.YtnmnbogjnjbopaaDoor
