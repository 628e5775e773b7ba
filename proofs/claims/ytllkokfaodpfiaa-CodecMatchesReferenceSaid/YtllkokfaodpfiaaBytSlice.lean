/-
  Bytes as arguments: a slice of them opened as a list (with its length at most its capacity).
-/
import Derived.Test.YtllkokfaodpfiaaRows
import Derived.Test.YtllkokfaodpfiaaCdcMath
import Derived.Test.YtllkokfaodpfiaaSeq
import Derived.Test.YtllkokfaodpfiaaBodyRow
import Derived.WalkKit
import Derived.ProofKit
import Derived.OpenShut
import Derived.ChangeSame
import Derived.Lib.SmallJoins
import Derived.Deep.Slices
namespace Go.Proofs.Ytllkokfaodpfiaa
open Go.ChangeShapes Go.WideShapes Go.ChangeAt Go.RowKit Go.Joins Go.Deep

theorem cells_u8 : Try.prog.cellsOf 5 = 1 := by kernel_rfl
theorem add_zeroB (x : Addr) : x.add 0 = x := by obtain ⟨g, o, p⟩ := x; unfold Addr.add; split <;> simp_all
theorem list_ofB {P : Nat → Int → Prop} : ∀ (n : Nat), (∀ i, i < n → ∃ b, P i b) → ∃ L : List Int, L.length = n ∧ ∀ (k : Nat) (b : Int), L[k]? = some b → P k b
  | 0, _ => ⟨[], rfl, fun _ _ h => by simp at h⟩
  | n + 1, h => by
    obtain ⟨L, hl, hL⟩ := list_ofB n (fun i hi => h i (by omega))
    obtain ⟨b, hb⟩ := h n (by omega)
    refine ⟨L ++ [b], by simp [hl], fun k x hx => ?_⟩
    by_cases c : k < n
    · rw [List.getElem?_append_left (by omega)] at hx; exact hL k x hx
    · rw [List.getElem?_append_right (by omega)] at hx
      have e : k = n := by
        have := (List.getElem?_eq_some_iff.1 hx).1
        simp at this; omega
      subst e
      simp [hl] at hx
      subst hx; exact hb

section
variable {H : Type} {enc : TypeId × Value → H} {W : World} {base : Nat} {spare : Nat → Bool} {held : Bool}
set_option maxRecDepth 100000 in
theorem open_bytes {r : Reach} {b0 : Nat} {v : Value} {d : DataW H} {p : List MemPlace} (hv : Value.okWide Try.prog W r b0 23 v) (h : DataW.Trod enc Try.prog W base spare held 23 v d p) :
    ∃ L : List Int, Sq bv 1 W v L ∧ Byt L ∧ L.length ≤ maxLen ∧ ∀ b m c, v = .slice b m c → m ≤ c := by
  obtain ⟨a0, len0, cap0, rfl⟩ := okWide_slice Try.underlying23 hv
  obtain ⟨fuel, hf⟩ := h
  rcases open_slice Try.underlying23 hf with ⟨hcs, _⟩ | ⟨a, len, cap, m, n, D, Pl, hcs, _, hl, hm, hmm, _, hi⟩
  · simp [Value.cells] at hcs
    obtain ⟨rfl, rfl, rfl⟩ := hcs
    exact ⟨[], Sq.nil, fun _ h => by simp at h, by simp, fun b m c e => by injection e with _ e1 e2; omega⟩
  · simp [Value.cells] at hcs
    obtain ⟨rfl, rfl, rfl⟩ := hcs
    rw [cells_u8] at hi
    have hle : len0 ≤ m := by rw [hmm]; split <;> omega
    obtain ⟨L, hL, hP⟩ := list_ofB (P := fun i b => W.cell? (a.add (i * 1)) = some (.int .u8 b) ∧ 0 ≤ b ∧ b < 256) len0 (fun i h => by
      obtain ⟨cs', hc, ht⟩ := hi i (by omega)
      obtain ⟨hs, _, hat⟩ := World.cells?_some hc
      match cs', hs with
      | [c0], _ =>
        obtain ⟨b, e0, _, w0⟩ := DataW.trod_int Try.underlying5 ht
        simp at e0
        subst e0
        have q := hat 0 (by decide)
        have := bounds_u8 w0
        rw [add_zeroB] at q
        exact ⟨b, by simpa using q, by omega, by omega⟩)
    subst hL
    refine ⟨L, ⟨_, _, rfl, fun k b hb => ?_⟩, fun b hb => ?_, by omega, fun b m c e => by injection e with _ e1 e2; omega⟩
    · obtain ⟨g, off, spot⟩ := a
      have hL0 : 0 < L.length := by have := (List.getElem?_eq_some_iff.1 hb).1; omega
      have h0 := (hP 0 _ (List.getElem?_eq_getElem hL0)).1
      have hspot : spot = none := by
        have q := World.cell?_spot h0
        simp only [Nat.zero_mul] at q
        exact q
      subst hspot
      refine ⟨g, off, rfl, fun i u hu => ?_⟩
      match i, hu with
      | 0, hu =>
        simp [bv] at hu
        subst hu
        rw [Nat.add_zero, ← (hP k b hb).1, Go.WideShapes.add_plain]
    · obtain ⟨k, hk⟩ := List.getElem?_of_mem hb
      exact (hP k b hk).2
end
end Go.Proofs.Ytllkokfaodpfiaa
