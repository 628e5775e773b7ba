/-
  A slice of steps as an argument: opened as a list of kinds and bodies.
-/
import Derived.Test.YtfkieieedljodaaBodySlice
namespace Go.Proofs.Ytfkieieedljodaa
open Go.ChangeShapes Go.WideShapes Go.ChangeAt Go.RowKit Go.Joins Go.Deep

/-- A step's eleven cells. -/
def svals (s : Int × Bd) : List Value := .int .i64 s.1 :: vals s.2
/-- The value v is a slice that reads as the list L of steps. -/
def LstS (w : World) (v : Value) (L : List (Int × Bd)) : Prop := (L = [] ∧ ∃ base cap, v = .slice base 0 cap) ∨
  ∃ g off cap, v = .slice (some ⟨g, off, none⟩) L.length cap ∧ ∀ (k : Nat) (s : Int × Bd), L[k]? = some s → ∀ i, i < 11 → w.cell? ⟨g, off + k * 11 + i, none⟩ = (svals s)[i]?
theorem list_of' {α : Type} {P : Nat → α → Prop} : ∀ (n : Nat), (∀ i, i < n → ∃ b, P i b) → ∃ L : List α, L.length = n ∧ ∀ (k : Nat) (b : α), L[k]? = some b → P k b
  | 0, _ => ⟨[], rfl, fun _ _ h => by simp at h⟩
  | n + 1, h => by
    obtain ⟨L, hl, hL⟩ := list_of' n (fun i hi => h i (by omega))
    obtain ⟨b, hb⟩ := h n (by omega)
    refine ⟨L ++ [b], by simp [hl], fun k x hx => ?_⟩
    by_cases c : k < n
    · rw [List.getElem?_append_left (by omega)] at hx; exact hL k x hx
    · rw [List.getElem?_append_right (by omega)] at hx
      have e : k = n := by
        have := (List.getElem?_eq_some_iff.1 hx).1
        simp at this; omega
      subst e
      simp [hl] at hx
      subst hx; exact hb
theorem cells_int : Try.prog.cellsOf 3 = 1 := by kernel_rfl
theorem cells_step : Try.prog.cellsOf 34 = 11 := by kernel_rfl

section
variable {H : Type} {enc : TypeId × Value → H} {W : World} {base : Nat} {spare : Nat → Bool} {held : Bool}
theorem open_step_cells {n : Nat} {cs : List Value} {y : DataW H × List MemPlace} (h : DataW.trod enc Try.prog W base spare held n 34 cs = some y) : ∃ s : Int × Bd, cs = svals s ∧ Fits s.2 := by
  obtain ⟨xs, n, _, hx, hsz, hlen, hg⟩ := DataW.trod_struct Try.underlying34 h
  rw [cells_step] at hsz
  match cs, hsz with
  | [c0, c1, c2, c3, c4, c5, c6, c7, c8, c9, c10], _ =>
    match xs, hlen with
    | [y0, y1], _ =>
      have g0 : DataW.trod enc Try.prog W base spare held n 3 [c0] = some y0 := by simpa [cells_int] using hg 0 _ rfl
      have g1 : DataW.trod enc Try.prog W base spare held n 32 [c1, c2, c3, c4, c5, c6, c7, c8, c9, c10] = some y1 := by simpa [cells_body] using hg 1 _ rfl
      clear hg h hx
      obtain ⟨a0, e0, rfl, w0⟩ := DataW.trod_int Try.underlying3 g0
      obtain ⟨b, e1, hb⟩ := open_cells g1
      simp at e0
      subst e0
      exact ⟨⟨a0, b⟩, by show _ :: _ = _ :: _; rw [e1], hb⟩

theorem open_steps {r : Reach} {b0 : Nat} {v : Value} {d : DataW H} {p : List MemPlace} (hv : Value.okWide Try.prog W r b0 22 v) (h : DataW.Trod enc Try.prog W base spare held 22 v d p) :
    ∃ L : List (Int × Bd), LstS W v L ∧ (∀ s ∈ L, Fits s.2) ∧ L.length ≤ maxLen := by
  obtain ⟨a0, len0, cap0, rfl⟩ := okWide_slice Try.underlying22 hv
  obtain ⟨fuel, hf⟩ := h
  rcases open_slice Try.underlying22 hf with ⟨hcs, _⟩ | ⟨a, len, cap, m, n, D, Pl, hcs, _, hl, hm, hmm, _, hi⟩
  · simp [Value.cells] at hcs
    obtain ⟨rfl, rfl, rfl⟩ := hcs
    exact ⟨[], .inl ⟨rfl, _, _, rfl⟩, fun _ h => by simp at h, by simp⟩
  · simp [Value.cells] at hcs
    obtain ⟨rfl, rfl, rfl⟩ := hcs
    rw [cells_step] at hi
    have hle : len0 ≤ m := by rw [hmm]; split <;> omega
    obtain ⟨L, hL, hP⟩ := list_of' (P := fun i (s : Int × Bd) => (∀ j, j < 11 → W.cell? ((a.add (i * 11)).add j) = (svals s)[j]?) ∧ Fits s.2) len0 (fun i h => by
      obtain ⟨cs', hc, ht⟩ := hi i (by omega)
      obtain ⟨_, _, hat⟩ := World.cells?_some hc
      obtain ⟨b, rfl, hb⟩ := open_step_cells ht
      exact ⟨b, hat, hb⟩)
    subst hL
    refine ⟨L, ?_, fun b hb => ?_, by omega⟩
    · by_cases hz : L = []
      · subst hz; exact .inl ⟨rfl, _, _, rfl⟩
      · obtain ⟨x, l, rfl⟩ := List.exists_cons_of_ne_nil hz
        obtain ⟨g, off, spot⟩ := a
        have h0 := (hP 0 x rfl).1 0 (by decide)
        have hspot : spot = none := by
          have q := World.cell?_spot (h0.trans (show (svals x)[0]? = some (.int .i64 x.1) from rfl))
          simp only [Nat.zero_mul] at q
          exact q
        subst hspot
        refine .inr ⟨g, off, cap0, rfl, fun k b hb i hi' => ?_⟩
        rw [← (hP k b hb).1 i hi']
        rw [Go.WideShapes.add_plain, Go.WideShapes.add_plain]
    · obtain ⟨k, hk⟩ := List.getElem?_of_mem hb
      exact (hP k b hk).2
end
theorem LstS.shape {w : World} {v : Value} {L : List (Int × Bd)} (h : LstS w v L) : ∃ base cap, v = .slice base L.length cap := by
  rcases h with ⟨rfl, base, cap, rfl⟩ | ⟨g, off, cap, rfl, _⟩
  · exact ⟨base, cap, rfl⟩
  · exact ⟨_, _, rfl⟩
theorem LstS.at_ {w w' : World} {base : Option Addr} {n cap k : Nat} {L : List (Int × Bd)} {s : Int × Bd} (h : LstS w (.slice base n cap) L) (g : Kep w.heap.size w w') (hs : L[k]? = some s) : ∃ g off, base = some ⟨g, off, none⟩ ∧ ∀ (i : Nat) (v : Value), (svals s)[i]? = some v → i < 11 → w'.cell? ⟨g, off + k * 11 + i, none⟩ = some v := by
  rcases h with ⟨rfl, _⟩ | ⟨b, off, c, e, hc⟩
  · simp at hs
  · injection e with e1 e2 e3
    exact ⟨b, off, e1, fun i v hv hi => g.all ((hc k s hs i hi).trans hv)⟩
end Go.Proofs.Ytfkieieedljodaa
