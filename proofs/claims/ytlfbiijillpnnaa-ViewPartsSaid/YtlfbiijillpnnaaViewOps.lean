/-
  Package view: its functions' contracts, as one premise of the laws' walks.
-/
import Derived.Test.YtlfbiijillpnnaaViewDiff
import Derived.Test.YtlfbiijillpnnaaViewMath
namespace Go.Proofs.Ytlfbiijillpnnaa
open Go.RowKit Go.Lib

/-- A slice in a block of its own, that may be written. -/
def Mine (w : World) (B : Nat) (v : Value) (L : List Bd) : Prop := Lst w v L ∧ ∀ g, v.ownBlock = some g → B ≤ g ∧ g < w.heap.size ∧ ∀ j, w.frozen? ⟨g, j, none⟩ = false
theorem Kep.next {a b c : World} (h : Kep a.heap.size a b) (k : Kep b.heap.size b c) : Kep a.heap.size a c := h.trans (k.mono h.size)
theorem Kep.made (w : World) (o : Obj) : Kep w.heap.size w (w.alloc o) := Kep.alloc (Kep.refl _ _) (Nat.le_refl _) o
abbrev Fit (L : List Bd) : Prop := ∀ x ∈ L, Fits x
abbrev VCheck : Prop := ∀ v L w, Lst w v L → Fit L → L.length ≤ 1000000 → Calls Try.prog 12 #[v] w fun e w' => e = .returned (.int .i64 (vchkE L)) ∧ Kep w.heap.size w w'
abbrev VSort : Prop := ∀ v L w, Lst w v L → Fit L → L.length ≤ 1000000 → Calls Try.prog 9 #[v] w fun e w' => ∃ v', e = .returned (.tuple #[v', .int .i64 (sortE L)]) ∧ Mine w' w.heap.size v' (sortL L) ∧ Kep w.heap.size w w'
abbrev VFind : Prop := ∀ v L key w, Lst w v L → Fit L → L.length ≤ 1000000 → Asc L → (Lit.int .u32 key).wf = true → Calls Try.prog 14 #[v, .int .u32 key] w fun e w' => e = .returned (.tuple #[.int .i64 (lessK L key), .bool (look L key).isSome]) ∧ Kep w.heap.size w w'
abbrev VDiff : Prop := ∀ v1 v2 L M w, Lst w v1 L → Lst w v2 M → Fit L → Fit M → L.length ≤ 1000000 → M.length ≤ 1000000 → Asc L → Asc M → Calls Try.prog 18 #[v1, v2] w fun e w' => ∃ v', e = .returned v' ∧ CLst w' v' (diffC L M) ∧ Kep w.heap.size w w'
abbrev VApply : Prop := ∀ v1 v2 v3 L M w, Lst w v1 L → Lst w v2 M → CLst w v3 (diffC L M) → Fit L → Fit M → L.length ≤ 1000000 → M.length ≤ 1000000 → Asc L → Asc M → Calls Try.prog 20 #[v1, v2, v3] w fun e w' => ∃ v', e = .returned v' ∧ Mine w' w.heap.size v' M ∧ Kep w.heap.size w w'
/-- What the laws ask of the program. -/
structure VOps : Prop where
  check : VCheck
  sort : VSort
  find : VFind
  diff : VDiff
  apply : VApply
theorem lst_new (w : World) (L : List Bd) (t : TypeId) (cap : Nat) : Lst (w.alloc (.cells (flat L).toArray t)) (.slice (some ⟨w.heap.size, 0, none⟩) L.length cap) L := by
  refine .inr ⟨w.heap.size, 0, cap, rfl, fun k b hb i hi => ?_⟩
  rw [World.cell?_alloc_at _ _ _ _ rfl, ← flat_get L k b hb i hi]
  simp
theorem klst_new (w : World) (x : Int) (t : TypeId) : KLst (w.alloc (.cells #[.int .u32 x] t)) (.slice (some ⟨w.heap.size, 0, none⟩) 1 1) [x] := by
  refine .inr ⟨w.heap.size, 0, 1, rfl, fun k y hy => ?_⟩
  rw [World.cell?_alloc_at _ _ _ _ rfl]
  rcases k with _ | k
  · simp at hy; simp [hy]
  · simp at hy
theorem CLst.shape {w : World} {v : Value} {c : Ch} (h : CLst w v c) : ∃ b0 s0 b1 s1 b2 s2, v = .agg #[.slice b0 c.add.length s0, .slice b1 c.rem.length s1, .slice b2 c.chg.length s2] := by
  obtain ⟨v0, v1, v2, rfl, h0, h1, h2⟩ := h
  obtain ⟨b0, s0, rfl⟩ := h0.shape
  obtain ⟨b1, s1, rfl⟩ := h1.shape
  obtain ⟨b2, s2, rfl⟩ := h2.shape
  exact ⟨b0, s0, b1, s1, b2, s2, rfl⟩
set_option maxRecDepth 100000 in
set_option maxHeartbeats 1000000 in
theorem change_any (v : Value) (c : Ch) (w : World) (h : CLst w v c) : Calls Try.prog 17 #[v] w fun e w' => e = .returned v ∧ Kep w.heap.size w w' := by
  obtain ⟨b0, s0, b1, s1, b2, s2, rfl⟩ := h.shape
  clear h
  generalize c.add.length = n0
  generalize c.rem.length = n1
  generalize c.chg.length = n2
  have K0 : Hid (∀ o o', Kep w.heap.size w ((w.alloc o).alloc o')) := Lib.hid (fun o o' => (Kep.alloc (Kep.refl _ _) (Nat.le_refl _) _).alloc (by simp) _)
  go_enter Try.func17, Try.ntmps17
  go_wp2
  exact bodyPost_ret (v := .agg #[.slice b0 n0 s0, .slice b1 n1 s1, .slice b2 n2 s2]) (by simp [results, Try.results17, go_sem]) rfl ⟨rfl, K0.out _ _⟩
end Go.Proofs.Ytlfbiijillpnnaa
