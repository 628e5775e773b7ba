/-
  Lists without duplicates in ascending order: an element put in its place; such a list is given by its members (no program).
-/
import Derived.Test.YtnmnbogjnjbopaaDoorGrown
namespace Go.Proofs.YtnmnbogjnjbopaaDoor

/-- A strict order, as a test. -/
structure Strict {α : Type} (lt : α → α → Bool) : Prop where
  irr : ∀ a, lt a a = false
  trans : ∀ {a b c}, lt a b = true → lt b c = true → lt a c = true
  tri : ∀ a b, lt a b = false → lt b a = false → a = b
def SortS {α : Type} (lt : α → α → Bool) (l : List α) : Prop := l.Pairwise fun a b => lt a b = true
def dropOne {α : Type} [DecidableEq α] (p : α) : List α → List α
  | [] => []
  | x :: r => if x = p then r else x :: r
/-- p put into l at its place, unless it is there. -/
def putS {α : Type} [DecidableEq α] (lt : α → α → Bool) (l : List α) (p : α) : List α := l.takeWhile (fun x => lt x p) ++ p :: dropOne p (l.dropWhile fun x => lt x p)
section
variable {α : Type} [DecidableEq α] {lt : α → α → Bool}
theorem putS_nil (p : α) : putS lt [] p = [p] := rfl
theorem putS_cons (x : α) (l : List α) (p : α) : putS lt (x :: l) p = if lt x p = true then x :: putS lt l p else p :: dropOne p (x :: l) := by
  unfold putS
  by_cases h : lt x p = true
  · rw [if_pos h, List.takeWhile_cons_of_pos (by simpa using h), List.dropWhile_cons_of_pos (by simpa using h)]; rfl
  · rw [if_neg h, List.takeWhile_cons_of_neg (by simpa using h), List.dropWhile_cons_of_neg (by simpa using h)]; rfl
theorem dropOne_cons (p x : α) (r : List α) : dropOne p (x :: r) = if x = p then r else x :: r := rfl
theorem dropOne_sub (p : α) (l : List α) : (dropOne p l).Sublist l := by
  cases l with
  | nil => exact List.Sublist.refl _
  | cons x r =>
    rw [dropOne_cons]
    split
    · exact List.sublist_cons_self _ _
    · exact List.Sublist.refl _
theorem SortS.lt_all (H : Strict lt) {x p : α} {l : List α} (h : SortS lt (x :: l)) (hx : lt x p = false) : ∀ y ∈ dropOne p (x :: l), lt p y = true := by
  have h1 := List.pairwise_cons.1 h
  intro y hy
  rw [dropOne_cons] at hy
  split at hy
  · rename_i e
    subst e
    exact h1.1 y hy
  · rename_i e
    have hp : lt p x = true := by
      cases q : lt p x
      · exact absurd (H.tri _ _ hx q) e
      · rfl
    rcases List.mem_cons.1 hy with rfl | hy
    · exact hp
    · exact H.trans hp (h1.1 y hy)
theorem putS_mem (H : Strict lt) : ∀ {l : List α} {p x : α}, SortS lt l → (x ∈ putS lt l p ↔ x = p ∨ x ∈ l)
  | [], p, x, _ => by simp [putS_nil]
  | y :: l, p, x, h => by
    have h1 := List.pairwise_cons.1 h
    rw [putS_cons]
    split
    · rw [List.mem_cons, putS_mem H h1.2, List.mem_cons]
      constructor
      · rintro (a | a | a)
        · exact .inr (.inl a)
        · exact .inl a
        · exact .inr (.inr a)
      · rintro (a | a | a)
        · exact .inr (.inl a)
        · exact .inl a
        · exact .inr (.inr a)
    · rw [dropOne_cons]
      split
      · rename_i e
        subst e
        simp
      · simp
theorem putS_sort (H : Strict lt) : ∀ {l : List α} {p : α}, SortS lt l → SortS lt (putS lt l p)
  | [], p, _ => by rw [putS_nil]; exact List.pairwise_singleton _ _
  | y :: l, p, h => by
    have h1 := List.pairwise_cons.1 h
    rw [putS_cons]
    split
    · rename_i hy
      refine List.pairwise_cons.2 ⟨fun z hz => ?_, putS_sort H h1.2⟩
      rcases (putS_mem H h1.2).1 hz with rfl | hz
      · exact hy
      · exact h1.1 z hz
    · rename_i hy
      exact List.pairwise_cons.2 ⟨SortS.lt_all H h (by simpa using hy), List.Pairwise.sublist (dropOne_sub _ _) h⟩
omit [DecidableEq α] in
theorem SortS.ext (H : Strict lt) : ∀ {a b : List α}, SortS lt a → SortS lt b → (∀ x, x ∈ a ↔ x ∈ b) → a = b
  | [], [], _, _, _ => rfl
  | [], y :: b, _, _, h => absurd ((h y).2 (by simp)) (by simp)
  | x :: a, [], _, _, h => absurd ((h x).1 (by simp)) (by simp)
  | x :: a, y :: b, ha, hb, h => by
    have a1 := List.pairwise_cons.1 ha
    have b1 := List.pairwise_cons.1 hb
    have no : ∀ u v : α, lt u v = true → lt v u = true → False := fun u v h1 h2 => by
      have := H.trans h1 h2
      rw [H.irr] at this
      cases this
    have e : x = y := by
      rcases List.mem_cons.1 ((h x).1 (by simp)) with e | e
      · exact e
      · rcases List.mem_cons.1 ((h y).2 (by simp)) with q | q
        · exact q.symm
        · exact (no x y (a1.1 y q) (b1.1 x e)).elim
    subst e
    rw [SortS.ext H a1.2 b1.2 fun z => ?_]
    have hz := h z
    rw [List.mem_cons, List.mem_cons] at hz
    have out : ∀ {l : List α}, (∀ z ∈ l, lt x z = true) → z ∈ l → z ≠ x := fun hl hm e => by
      have := hl z hm
      rw [e, H.irr] at this
      cases this
    constructor
    · intro hm
      rcases hz.1 (.inr hm) with q | q
      · exact absurd q (out a1.1 hm)
      · exact q
    · intro hm
      rcases hz.2 (.inr hm) with q | q
      · exact absurd q (out b1.1 hm)
      · exact q
/-- All elements of a list that pass a test, put one after another. -/
theorem fold_put (H : Strict lt) {β : Type} (f : β → α) (t : β → Bool) : ∀ (L : List β) (acc : List α), SortS lt acc →
    SortS lt (L.foldl (fun acc y => if t y = true then putS lt acc (f y) else acc) acc) ∧ ∀ x, x ∈ L.foldl (fun acc y => if t y = true then putS lt acc (f y) else acc) acc ↔ x ∈ acc ∨ ∃ y ∈ L, t y = true ∧ x = f y
  | [], acc, h => ⟨h, fun x => by simp⟩
  | y :: L, acc, h => by
    rw [List.foldl_cons]
    by_cases c : t y = true
    · rw [if_pos c]
      obtain ⟨i1, i2⟩ := fold_put H f t L (putS lt acc (f y)) (putS_sort H h)
      refine ⟨i1, fun x => ?_⟩
      rw [i2, putS_mem H h]
      constructor
      · rintro ((rfl | a) | ⟨z, hz, hc, rfl⟩)
        · exact .inr ⟨y, by simp, c, rfl⟩
        · exact .inl a
        · exact .inr ⟨z, by simp [hz], hc, rfl⟩
      · rintro (a | ⟨z, hz, hc, rfl⟩)
        · exact .inl (.inr a)
        · rcases List.mem_cons.1 hz with rfl | hz
          · exact .inl (.inl rfl)
          · exact .inr ⟨z, hz, hc, rfl⟩
    · rw [if_neg c]
      obtain ⟨i1, i2⟩ := fold_put H f t L acc h
      refine ⟨i1, fun x => ?_⟩
      rw [i2]
      constructor
      · rintro (a | ⟨z, hz, hc, rfl⟩)
        · exact .inl a
        · exact .inr ⟨z, by simp [hz], hc, rfl⟩
      · rintro (a | ⟨z, hz, hc, rfl⟩)
        · exact .inl a
        · rcases List.mem_cons.1 hz with rfl | hz
          · exact absurd hc c
          · exact .inr ⟨z, hz, hc, rfl⟩
end
/-- Numbers, and pairs of numbers, in their order. -/
def kless (a b : Int) : Bool := decide (a < b)
def pless (p q : Int × Int) : Bool := decide (p.1 < q.1 ∨ p.1 = q.1 ∧ p.2 < q.2)
theorem kless_strict : Strict kless := ⟨fun a => decide_eq_false (by omega), fun {a b c} h1 h2 => by
  have h1 := of_decide_eq_true h1
  have h2 := of_decide_eq_true h2
  exact decide_eq_true (by omega), fun a b h1 h2 => by
  have h1 := of_decide_eq_false h1
  have h2 := of_decide_eq_false h2
  omega⟩
theorem pless_strict : Strict pless := ⟨fun a => decide_eq_false (by omega), fun {a b c} h1 h2 => by
  have h1 := of_decide_eq_true h1
  have h2 := of_decide_eq_true h2
  exact decide_eq_true (by omega), fun a b h1 h2 => by
  have h1 := of_decide_eq_false h1
  have h2 := of_decide_eq_false h2
  exact Prod.ext (by omega) (by omega)⟩
end Go.Proofs.YtnmnbogjnjbopaaDoor
