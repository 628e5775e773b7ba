/-
  Contacts as arguments: a slice of them opened as a list (with its length at most its capacity).
-/
import Derived.Test.YtlbbacmpdlghaaaRows
import Derived.Test.YtlbbacmpdlghaaaCtsMath
import Derived.Test.YtlbbacmpdlghaaaJ01FxRef
import Derived.WalkKit
import Derived.ProofKit
import Derived.OpenShut
import Derived.ChangeSame
import Derived.Lib.SmallJoins
import Derived.Deep.Slices
namespace Go.Proofs.Ytlbbacmpdlghaaa
open Go.ChangeShapes Go.WideShapes Go.ChangeAt Go.RowKit Go.Joins Go.Deep

/-- A contact's numbers fit their types. -/
def FitsC (c : Ct) : Prop := (Lit.int .u32 c.lo).wf = true ∧ (Lit.int .u32 c.hi).wf = true ∧ (Lit.int .i32 c.nx).wf = true ∧ (Lit.int .i32 c.ny).wf = true ∧ (Lit.int .i32 c.dp).wf = true
theorem list_ofC {P : Nat → Ct → Prop} : ∀ (n : Nat), (∀ i, i < n → ∃ b, P i b) → ∃ L : List Ct, L.length = n ∧ ∀ (k : Nat) (b : Ct), L[k]? = some b → P k b
  | 0, _ => ⟨[], rfl, fun _ _ h => by simp at h⟩
  | n + 1, h => by
    obtain ⟨L, hl, hL⟩ := list_ofC n (fun i hi => h i (by omega))
    obtain ⟨b, hb⟩ := h n (by omega)
    refine ⟨L ++ [b], by simp [hl], fun k x hx => ?_⟩
    by_cases c : k < n
    · rw [List.getElem?_append_left (by omega)] at hx; exact hL k x hx
    · rw [List.getElem?_append_right (by omega)] at hx
      have e : k = n := by
        have := (List.getElem?_eq_some_iff.1 hx).1
        simp at this; omega
      subst e
      simp [hl] at hx
      subst hx; exact hb

section
variable {H : Type} {enc : TypeId × Value → H} {W : World} {base : Nat} {spare : Nat → Bool} {held : Bool}
theorem open_ct5 {n : Nat} {cs : List Value} {y : DataW H × List MemPlace} (h : DataW.trod enc Try.prog W base spare held n 37 cs = some y) :
    ∃ c : Ct, cs = ctv c ∧ FitsC c ∧ y.2 = [] := by
  have hsz : cs.length = 5 := by
    obtain ⟨_, _, _, _, hsz, _, _⟩ := DataW.trod_struct Try.underlying37 h
    rw [cells_con] at hsz
    exact hsz
  match cs, hsz with
  | [c0, c1, c2, c3, c4], _ =>
    obtain ⟨a0, a1, a2, a3, a4, ⟨rfl, rfl, rfl, rfl, rfl⟩, hy, w⟩ := open_con5 h
    exact ⟨⟨a0, a1, a2, a3, a4⟩, rfl, w, by rw [hy]⟩
set_option maxRecDepth 100000 in
theorem open_contacts {r : Reach} {b0 : Nat} {v : Value} {d : DataW H} {p : List MemPlace} (hv : Value.okWide Try.prog W r b0 23 v) (h : DataW.Trod enc Try.prog W base spare held 23 v d p) :
    ∃ L : List Ct, Sq ctv 5 W v L ∧ (∀ b ∈ L, FitsC b) ∧ L.length ≤ maxLen ∧ ∀ b m c, v = .slice b m c → m ≤ c := by
  obtain ⟨a0, len0, cap0, rfl⟩ := okWide_slice Try.underlying23 hv
  obtain ⟨fuel, hf⟩ := h
  rcases open_slice Try.underlying23 hf with ⟨hcs, _⟩ | ⟨a, len, cap, m, n, D, Pl, hcs, _, hl, hm, hmm, _, hi⟩
  · simp [Value.cells] at hcs
    obtain ⟨rfl, rfl, rfl⟩ := hcs
    exact ⟨[], Sq.nil, fun _ h => by simp at h, by simp, fun b m c e => by injection e with _ e1 e2; omega⟩
  · simp [Value.cells] at hcs
    obtain ⟨rfl, rfl, rfl⟩ := hcs
    rw [cells_con] at hi
    have hle : len0 ≤ m := by rw [hmm]; split <;> omega
    obtain ⟨L, hL, hP⟩ := list_ofC (P := fun i b => (∀ j, j < 5 → W.cell? ((a.add (i * 5)).add j) = (ctv b)[j]?) ∧ FitsC b) len0 (fun i h => by
      obtain ⟨cs', hc, ht⟩ := hi i (by omega)
      obtain ⟨_, _, hat⟩ := World.cells?_some hc
      obtain ⟨b, rfl, hb, _⟩ := open_ct5 ht
      exact ⟨b, hat, hb⟩)
    subst hL
    refine ⟨L, ⟨_, _, rfl, fun k b hb => ?_⟩, fun b hb => ?_, by omega, fun b m c e => by injection e with _ e1 e2; omega⟩
    · obtain ⟨g, off, spot⟩ := a
      have hL0 : 0 < L.length := by have := (List.getElem?_eq_some_iff.1 hb).1; omega
      have h0 := (hP 0 _ (List.getElem?_eq_getElem hL0)).1 0 (by decide)
      have hspot : spot = none := by
        have q := World.cell?_spot (h0.trans (show (ctv (L[0]'hL0))[0]? = some (.int .u32 (L[0]'hL0).lo) from rfl))
        simp only [Nat.zero_mul] at q
        exact q
      subst hspot
      refine ⟨g, off, rfl, fun i u hu => ?_⟩
      have hi5 : i < 5 := by have := (List.getElem?_eq_some_iff.1 hu).1; simpa [ctv] using this
      rw [← hu, ← (hP k b hb).1 i hi5]
      rw [Go.WideShapes.add_plain, Go.WideShapes.add_plain]
    · obtain ⟨k, hk⟩ := List.getElem?_of_mem hb
      exact (hP k b hk).2
end
theorem KepC.same {W W' : World} (h : Kep W.heap.size W W') {p : MemPlace} (hp : p.block < W.heap.size) : W.sameAt W' p := by
  cases p with
  | cell b o => exact World.cell?_of_block (w := W) (h.block b hp)
  | map b => exact h.block b hp
theorem KepC.trod {H : Type} {enc : TypeId × Value → H} {P : Program} {t : TypeId} (hl : laidOutB P = true) (hr : P.readableRec t = true) (hrow : t < P.types.size) {W W' : World} {v : Value} {d : DataW H} {ps : List MemPlace}
    (h : DataW.Trod enc P W 0 (fun _ => true) true t v d ps) (hb : Kep W.heap.size W W') (hlt : ∀ x ∈ ps, x.block < W.heap.size) :
    DataW.Trod enc P W' 0 (fun b => decide (b < W.heap.size)) true t v d ps :=
  WideElems.Trod_stays hl hr hrow h (fun x hx => KepC.same hb (hlt x hx)) (fun x hx => by simpa using hlt x hx)
end Go.Proofs.Ytlbbacmpdlghaaa
