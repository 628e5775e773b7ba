/-
  A slice that reads as a list of bodies: the cells of one of them, the address taken out.
-/
import Derived.Test.YtllkokfaodpfiaaStoreRef
namespace Go.Proofs.Ytllkokfaodpfiaa
open Go.RowKit Go.Lib

theorem Lst.at_ {w : World} {base : Option Addr} {n cap k : Nat} {L : List Bd} {b : Bd} (h : Lst w (.slice base n cap) L) (hb : L[k]? = some b) : ∃ g off, base = some ⟨g, off, none⟩ ∧ ∀ i, i < 10 → w.cell? ⟨g, off + k * 10 + i, none⟩ = (vals b)[i]? := by
  rcases h with ⟨rfl, _⟩ | ⟨g, off, c, e, hc⟩
  · simp at hb
  · injection e with e1 e2 e3
    exact ⟨g, off, e1, hc k b hb⟩
end Go.Proofs.Ytllkokfaodpfiaa
