/-
  Package store's reference: All.
-/
import Derived.Test.YtllkokfaodpfiaaStoreSame
namespace Go.Proofs.Ytllkokfaodpfiaa
open Go.RowKit Go.Lib

/-- The bodies after adding some of them to none. -/
def allL (l : List Bd) : List Bd := l.foldl addL []
theorem allL_snoc (l : List Bd) (x : Bd) : allL (l ++ [x]) = addL (allL l) x := by simp [allL]
theorem addL_asc {m : List Bd} (h : Asc m) (x : Bd) : Asc (addL m x) ∧ (addL m x).length ≤ m.length + 1 := by
  unfold addL
  split
  · exact ⟨h, by omega⟩
  · split
    · exact ⟨h, by omega⟩
    · split
      · exact ⟨h, by omega⟩
      · exact ⟨put_asc h x false, (put_len h x).2⟩
theorem allL_asc (l : List Bd) : Asc (allL l) ∧ (allL l).length ≤ l.length := by
  suffices h : ∀ (l m : List Bd) (n : Nat), Asc m → m.length ≤ n → Asc (l.foldl addL m) ∧ (l.foldl addL m).length ≤ n + l.length by
    have := h l [] 0 trivial (by simp)
    simpa [allL] using this
  intro l
  induction l with
  | nil => intro m n h1 h2; exact ⟨h1, by simpa using h2⟩
  | cons x l ih =>
    intro m n h1 h2
    have a := addL_asc h1 x
    have := ih (addL m x) (n + 1) a.1 (by omega)
    exact ⟨this.1, by have := this.2; simp only [List.foldl_cons, List.length_cons]; omega⟩
theorem allL_take {L : List Bd} {k : Nat} {x : Bd} (hx : L[k]? = some x) : allL (L.take (k + 1)) = addL (allL (L.take k)) x := by
  rw [List.take_add_one, hx]
  exact allL_snoc _ _

end Go.Proofs.Ytllkokfaodpfiaa
