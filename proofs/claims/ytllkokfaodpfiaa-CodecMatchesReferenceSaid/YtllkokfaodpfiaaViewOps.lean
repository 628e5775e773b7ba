/-
  Package view: its functions' contracts, as one premise of the laws' walks.
-/
import Derived.Test.YtllkokfaodpfiaaViewDiff
import Derived.Test.YtllkokfaodpfiaaViewMath
namespace Go.Proofs.Ytllkokfaodpfiaa
open Go.RowKit Go.Lib

/-- A slice in a block of its own, that may be written. -/
def Mine (w : World) (B : Nat) (v : Value) (L : List Bd) : Prop := Lst w v L ∧ ∀ g, v.ownBlock = some g → B ≤ g ∧ g < w.heap.size ∧ ∀ j, w.frozen? ⟨g, j, none⟩ = false
theorem Kep.next {a b c : World} (h : Kep a.heap.size a b) (k : Kep b.heap.size b c) : Kep a.heap.size a c := h.trans (k.mono h.size)
theorem Kep.made (w : World) (o : Obj) : Kep w.heap.size w (w.alloc o) := Kep.alloc (Kep.refl _ _) (Nat.le_refl _) o
abbrev Fit (L : List Bd) : Prop := ∀ x ∈ L, Fits x
abbrev VCheck : Prop := ∀ v L w, Lst w v L → Fit L → L.length ≤ 1000000 → Calls Try.prog 18 #[v] w fun e w' => e = .returned (.int .i64 (vchkE L)) ∧ Kep w.heap.size w w'
theorem lst_new (w : World) (L : List Bd) (t : TypeId) (cap : Nat) : Lst (w.alloc (.cells (flat L).toArray t)) (.slice (some ⟨w.heap.size, 0, none⟩) L.length cap) L := by
  refine .inr ⟨w.heap.size, 0, cap, rfl, fun k b hb i hi => ?_⟩
  rw [World.cell?_alloc_at _ _ _ _ rfl, ← flat_get L k b hb i hi]
  simp
theorem klst_new (w : World) (x : Int) (t : TypeId) : KLst (w.alloc (.cells #[.int .u32 x] t)) (.slice (some ⟨w.heap.size, 0, none⟩) 1 1) [x] := by
  refine .inr ⟨w.heap.size, 0, 1, rfl, fun k y hy => ?_⟩
  rw [World.cell?_alloc_at _ _ _ _ rfl]
  rcases k with _ | k
  · simp at hy; simp [hy]
  · simp at hy
theorem CLst.shape {w : World} {v : Value} {c : Ch} (h : CLst w v c) : ∃ b0 s0 b1 s1 b2 s2, v = .agg #[.slice b0 c.add.length s0, .slice b1 c.rem.length s1, .slice b2 c.chg.length s2] := by
  obtain ⟨v0, v1, v2, rfl, h0, h1, h2⟩ := h
  obtain ⟨b0, s0, rfl⟩ := h0.shape
  obtain ⟨b1, s1, rfl⟩ := h1.shape
  obtain ⟨b2, s2, rfl⟩ := h2.shape
  exact ⟨b0, s0, b1, s1, b2, s2, rfl⟩
end Go.Proofs.Ytllkokfaodpfiaa
