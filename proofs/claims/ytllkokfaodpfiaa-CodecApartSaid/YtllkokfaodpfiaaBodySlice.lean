/-
  A slice of bodies as an argument: opened as a list; what is read on behind a call that keeps old blocks.
-/
import Derived.Test.YtllkokfaodpfiaaBodyRow
import Derived.Test.YtllkokfaodpfiaaStoreFind
import Derived.Test.YtllkokfaodpfiaaKep
import Derived.Deep.Slices
namespace Go.Proofs.Ytllkokfaodpfiaa
open Go.ChangeShapes Go.WideShapes Go.ChangeAt Go.RowKit Go.Joins Go.Deep

/-- A body's numbers fit their types. -/
def Fits (b : Bd) : Prop := (Lit.int .u32 b.k).wf = true ∧ (Lit.int .i32 b.r).wf = true ∧ (Lit.int .i32 b.ax).wf = true ∧ (Lit.int .i32 b.ay).wf = true ∧ (Lit.int .i32 b.m).wf = true ∧ (Lit.int .i32 b.o).wf = true ∧ (Lit.int .i32 b.px).wf = true ∧ (Lit.int .i32 b.py).wf = true ∧ (Lit.int .i32 b.vx).wf = true ∧ (Lit.int .i32 b.vy).wf = true
theorem list_of {P : Nat → Bd → Prop} : ∀ (n : Nat), (∀ i, i < n → ∃ b, P i b) → ∃ L : List Bd, L.length = n ∧ ∀ (k : Nat) (b : Bd), L[k]? = some b → P k b
  | 0, _ => ⟨[], rfl, fun _ _ h => by simp at h⟩
  | n + 1, h => by
    obtain ⟨L, hl, hL⟩ := list_of n (fun i hi => h i (by omega))
    obtain ⟨b, hb⟩ := h n (by omega)
    refine ⟨L ++ [b], by simp [hl], fun k x hx => ?_⟩
    by_cases c : k < n
    · rw [List.getElem?_append_left (by omega)] at hx; exact hL k x hx
    · rw [List.getElem?_append_right (by omega)] at hx
      have e : k = n := by
        have := (List.getElem?_eq_some_iff.1 hx).1
        simp at this; omega
      subst e
      simp [hl] at hx
      subst hx; exact hb

section
variable {H : Type} {enc : TypeId × Value → H} {W : World} {base : Nat} {spare : Nat → Bool} {held : Bool}
set_option maxRecDepth 100000 in
theorem open_cells {n : Nat} {cs : List Value} {y : DataW H × List MemPlace} (h : DataW.trod enc Try.prog W base spare held n 46 cs = some y) : ∃ b : Bd, cs = vals b ∧ Fits b := by
  obtain ⟨xs, n, _, hx, hsz, hlen, hg⟩ := DataW.trod_struct Try.underlying46 h
  rw [cells_body] at hsz
  match cs, hsz with
  | [c0, c1, c2, c3, c4, c5, c6, c7, c8, c9], _ =>
    match xs, hlen with
    | [y0, y1, y2, y3, y4, y5, y6], _ =>
      have g0 : DataW.trod enc Try.prog W base spare held n 42 [c0] = some y0 := by simpa [cells_u32] using hg 0 _ rfl
      have g1 : DataW.trod enc Try.prog W base spare held n 21 [c1] = some y1 := by simpa [cells_i32] using hg 1 _ rfl
      have g2 : DataW.trod enc Try.prog W base spare held n 44 [c2, c3] = some y2 := by simpa [cells_vec] using hg 2 _ rfl
      have g3 : DataW.trod enc Try.prog W base spare held n 21 [c4] = some y3 := by simpa [cells_i32] using hg 3 _ rfl
      have g4 : DataW.trod enc Try.prog W base spare held n 21 [c5] = some y4 := by simpa [cells_i32] using hg 4 _ rfl
      have g5 : DataW.trod enc Try.prog W base spare held n 44 [c6, c7] = some y5 := by simpa [cells_vec] using hg 5 _ rfl
      have g6 : DataW.trod enc Try.prog W base spare held n 44 [c8, c9] = some y6 := by simpa [cells_vec] using hg 6 _ rfl
      clear hg h hx
      obtain ⟨a0, e0, rfl, w0⟩ := DataW.trod_int Try.underlying42 g0
      obtain ⟨a1, e1, rfl, w1⟩ := DataW.trod_int Try.underlying21 g1
      obtain ⟨a2, a3, rfl, rfl, rfl, w2, w3⟩ := open_vec g2
      obtain ⟨a4, e4, rfl, w4⟩ := DataW.trod_int Try.underlying21 g3
      obtain ⟨a5, e5, rfl, w5⟩ := DataW.trod_int Try.underlying21 g4
      obtain ⟨a6, a7, rfl, rfl, rfl, w6, w7⟩ := open_vec g5
      obtain ⟨a8, a9, rfl, rfl, rfl, w8, w9⟩ := open_vec g6
      simp at e0 e1 e4 e5
      subst e0 e1 e4 e5
      exact ⟨⟨a0, a1, a2, a3, a4, a5, a6, a7, a8, a9⟩, rfl, w0, w1, w2, w3, w4, w5, w6, w7, w8, w9⟩

set_option maxRecDepth 100000 in
theorem open_bodies {r : Reach} {b0 : Nat} {v : Value} {d : DataW H} {p : List MemPlace} (hv : Value.okWide Try.prog W r b0 22 v) (h : DataW.Trod enc Try.prog W base spare held 22 v d p) :
    ∃ L : List Bd, Lst W v L ∧ (∀ b ∈ L, Fits b) ∧ L.length ≤ maxLen := by
  obtain ⟨a0, len0, cap0, rfl⟩ := okWide_slice Try.underlying22 hv
  obtain ⟨fuel, hf⟩ := h
  rcases open_slice Try.underlying22 hf with ⟨hcs, _⟩ | ⟨a, len, cap, m, n, D, Pl, hcs, _, hl, hm, hmm, _, hi⟩
  · simp [Value.cells] at hcs
    obtain ⟨rfl, rfl, rfl⟩ := hcs
    exact ⟨[], .inl ⟨rfl, _, _, rfl⟩, fun _ h => by simp at h, by simp⟩
  · simp [Value.cells] at hcs
    obtain ⟨rfl, rfl, rfl⟩ := hcs
    rw [cells_body] at hi
    have hle : len0 ≤ m := by rw [hmm]; split <;> omega
    obtain ⟨L, hL, hP⟩ := list_of (P := fun i b => (∀ j, j < 10 → W.cell? ((a.add (i * 10)).add j) = (vals b)[j]?) ∧ Fits b) len0 (fun i h => by
      obtain ⟨cs', hc, ht⟩ := hi i (by omega)
      obtain ⟨_, _, hat⟩ := World.cells?_some hc
      obtain ⟨b, rfl, hb⟩ := open_cells ht
      exact ⟨b, hat, hb⟩)
    subst hL
    refine ⟨L, ?_, fun b hb => ?_, by omega⟩
    · by_cases hz : L = []
      · subst hz; exact .inl ⟨rfl, _, _, rfl⟩
      · obtain ⟨x, l, rfl⟩ := List.exists_cons_of_ne_nil hz
        obtain ⟨g, off, spot⟩ := a
        have h0 := (hP 0 x rfl).1 0 (by decide)
        have hspot : spot = none := by
          have q := World.cell?_spot (h0.trans (show (vals x)[0]? = some (.int .u32 x.k) from rfl))
          simp only [Nat.zero_mul] at q
          exact q
        subst hspot
        refine .inr ⟨g, off, cap0, rfl, fun k b hb i hi' => ?_⟩
        rw [← (hP k b hb).1 i hi']
        rw [Go.WideShapes.add_plain, Go.WideShapes.add_plain]
    · obtain ⟨k, hk⟩ := List.getElem?_of_mem hb
      exact (hP k b hk).2
end

theorem Kep.same {W W' : World} (h : Kep W.heap.size W W') {p : MemPlace} (hp : p.block < W.heap.size) : W.sameAt W' p := by
  cases p with
  | cell b o => exact World.cell?_of_block (w := W) (h.block b hp)
  | map b => exact h.block b hp
theorem Kep.trod {H : Type} {enc : TypeId × Value → H} {P : Program} {t : TypeId} (hl : laidOutB P = true) (hr : P.readableRec t = true) (hrow : t < P.types.size) {W W' : World} {v : Value} {d : DataW H} {ps : List MemPlace}
    (h : DataW.Trod enc P W 0 (fun _ => true) true t v d ps) (hb : Kep W.heap.size W W') (hlt : ∀ x ∈ ps, x.block < W.heap.size) :
    DataW.Trod enc P W' 0 (fun b => decide (b < W.heap.size)) true t v d ps :=
  WideElems.Trod_stays hl hr hrow h (fun x hx => hb.same (hlt x hx)) (fun x hx => by simpa using hlt x hx)
end Go.Proofs.Ytllkokfaodpfiaa
