/-
  Shifts as arguments: a slice of them opened as a list (with its length at most its capacity).
-/
import Derived.Test.YtlabeelbbkbkaaaRows
import Derived.Test.YtlabeelbbkbkaaaJ04PointRef
import Derived.Test.YtlabeelbbkbkaaaJ00DivArith
import Derived.WalkKit
import Derived.ProofKit
import Derived.OpenShut
import Derived.ChangeSame
import Derived.Lib.SmallJoins
import Derived.Deep.Slices
namespace Go.Proofs.Ytlabeelbbkbkaaa
open Go.ChangeShapes Go.WideShapes Go.ChangeAt Go.RowKit Go.Joins Go.Deep

/-- A shift's numbers fit their types. -/
def FitsS (c : Sh) : Prop := (Lit.int .i64 c.1).wf = true ∧ (Lit.int .i64 c.2).wf = true
theorem cells_sft : Try.prog.cellsOf 43 = 2 := by kernel_rfl
theorem cells_i64S : Try.prog.cellsOf 2 = 1 := by kernel_rfl
theorem list_ofS {P : Nat → Sh → Prop} : ∀ (n : Nat), (∀ i, i < n → ∃ b, P i b) → ∃ L : List Sh, L.length = n ∧ ∀ (k : Nat) (b : Sh), L[k]? = some b → P k b
  | 0, _ => ⟨[], rfl, fun _ _ h => by simp at h⟩
  | n + 1, h => by
    obtain ⟨L, hl, hL⟩ := list_ofS n (fun i hi => h i (by omega))
    obtain ⟨b, hb⟩ := h n (by omega)
    refine ⟨L ++ [b], by simp [hl], fun k x hx => ?_⟩
    by_cases c : k < n
    · rw [List.getElem?_append_left (by omega)] at hx; exact hL k x hx
    · rw [List.getElem?_append_right (by omega)] at hx
      have e : k = n := by
        have := (List.getElem?_eq_some_iff.1 hx).1
        simp at this; omega
      subst e
      simp [hl] at hx
      subst hx; exact hb

section
variable {H : Type} {enc : TypeId × Value → H} {W : World} {base : Nat} {spare : Nat → Bool} {held : Bool}
theorem open_sh2 {n : Nat} {cs : List Value} {y : DataW H × List MemPlace} (h : DataW.trod enc Try.prog W base spare held n 43 cs = some y) :
    ∃ c : Sh, cs = shv c ∧ FitsS c ∧ y.2 = [] := by
  have hsz : cs.length = 2 := by
    obtain ⟨_, _, _, _, hsz, _, _⟩ := DataW.trod_struct Try.underlying43 h
    rw [cells_sft] at hsz
    exact hsz
  match cs, hsz with
  | [c0, c1], _ =>
    obtain ⟨z0, z1, m, hz, _, h0, h1⟩ := trod_struct2 Try.underlying43 h
    have g0 : DataW.trod enc Try.prog W base spare held m 2 [c0] = some z0 := by simpa [cells_i64S] using h0
    have g1 : DataW.trod enc Try.prog W base spare held m 2 [c1] = some z1 := by simpa [cells_i64S] using h1
    obtain ⟨a, e0, rfl, w0⟩ := DataW.trod_int Try.underlying2 g0
    obtain ⟨b, e1, rfl, w1⟩ := DataW.trod_int Try.underlying2 g1
    simp at e0 e1
    subst e0 e1
    have hy : y = (.agg [.lit (.int .i64 a), .lit (.int .i64 b)], []) := by simpa using hz
    exact ⟨(a, b), rfl, ⟨w0, w1⟩, by rw [hy]⟩
set_option maxRecDepth 100000 in
theorem open_shifts {r : Reach} {b0 : Nat} {v : Value} {d : DataW H} {p : List MemPlace} (hv : Value.okWide Try.prog W r b0 23 v) (h : DataW.Trod enc Try.prog W base spare held 23 v d p) :
    ∃ L : List Sh, Sq shv 2 W v L ∧ (∀ b ∈ L, FitsS b) ∧ L.length ≤ maxLen ∧ ∀ b m c, v = .slice b m c → m ≤ c := by
  obtain ⟨a0, len0, cap0, rfl⟩ := okWide_slice Try.underlying23 hv
  obtain ⟨fuel, hf⟩ := h
  rcases open_slice Try.underlying23 hf with ⟨hcs, _⟩ | ⟨a, len, cap, m, n, D, Pl, hcs, _, hl, hm, hmm, _, hi⟩
  · simp [Value.cells] at hcs
    obtain ⟨rfl, rfl, rfl⟩ := hcs
    exact ⟨[], Sq.nil, fun _ h => by simp at h, by simp, fun b m c e => by injection e with _ e1 e2; omega⟩
  · simp [Value.cells] at hcs
    obtain ⟨rfl, rfl, rfl⟩ := hcs
    rw [cells_sft] at hi
    have hle : len0 ≤ m := by rw [hmm]; split <;> omega
    obtain ⟨L, hL, hP⟩ := list_ofS (P := fun i b => (∀ j, j < 2 → W.cell? ((a.add (i * 2)).add j) = (shv b)[j]?) ∧ FitsS b) len0 (fun i h => by
      obtain ⟨cs', hc, ht⟩ := hi i (by omega)
      obtain ⟨_, _, hat⟩ := World.cells?_some hc
      obtain ⟨b, rfl, hb, _⟩ := open_sh2 ht
      exact ⟨b, hat, hb⟩)
    subst hL
    refine ⟨L, ⟨_, _, rfl, fun k b hb => ?_⟩, fun b hb => ?_, by omega, fun b m c e => by injection e with _ e1 e2; omega⟩
    · obtain ⟨g, off, spot⟩ := a
      have hL0 : 0 < L.length := by have := (List.getElem?_eq_some_iff.1 hb).1; omega
      have h0 := (hP 0 _ (List.getElem?_eq_getElem hL0)).1 0 (by decide)
      have hspot : spot = none := by
        have q := World.cell?_spot (h0.trans (show (shv (L[0]'hL0))[0]? = some (.int .i64 (L[0]'hL0).1) from rfl))
        simp only [Nat.zero_mul] at q
        exact q
      subst hspot
      refine ⟨g, off, rfl, fun i u hu => ?_⟩
      have hi5 : i < 2 := by have := (List.getElem?_eq_some_iff.1 hu).1; simpa [shv] using this
      rw [← hu, ← (hP k b hb).1 i hi5]
      rw [Go.WideShapes.add_plain, Go.WideShapes.add_plain]
    · obtain ⟨k, hk⟩ := List.getElem?_of_mem hb
      exact (hP k b hk).2
end
theorem KepS.same {W W' : World} (h : Kep W.heap.size W W') {p : MemPlace} (hp : p.block < W.heap.size) : W.sameAt W' p := by
  cases p with
  | cell b o => exact World.cell?_of_block (w := W) (h.block b hp)
  | map b => exact h.block b hp
theorem KepS.trod {H : Type} {enc : TypeId × Value → H} {P : Program} {t : TypeId} (hl : laidOutB P = true) (hr : P.readableRec t = true) (hrow : t < P.types.size) {W W' : World} {v : Value} {d : DataW H} {ps : List MemPlace}
    (h : DataW.Trod enc P W 0 (fun _ => true) true t v d ps) (hb : Kep W.heap.size W W') (hlt : ∀ x ∈ ps, x.block < W.heap.size) :
    DataW.Trod enc P W' 0 (fun b => decide (b < W.heap.size)) true t v d ps :=
  WideElems.Trod_stays hl hr hrow h (fun x hx => KepS.same hb (hlt x hx)) (fun x hx => by simpa using hlt x hx)
end Go.Proofs.Ytlabeelbbkbkaaa
