/-
  Package view: a list that sorts; parts of a view.
-/
import Derived.Test.YtllkokfaodpfiaaViewMath
namespace Go.Proofs.Ytllkokfaodpfiaa
open Go.RowKit Go.Lib

theorem firstBad_zero : ∀ {L : List Bd}, firstBad L = 0 ↔ ∀ x ∈ L, chkB x = 0
  | [] => by simp [firstBad]
  | x :: l => by
    unfold firstBad
    by_cases c : chkB x = 0
    · rw [if_neg (by simp [c]), firstBad_zero]; simp [c]
    · rw [if_pos c]
      exact ⟨fun h => absurd h c, fun h => h x (by simp)⟩
theorem eachE_zero {L : List Bd} : eachE L = 0 ↔ L.length ≤ 4096 ∧ ∀ x ∈ L, chkB x = 0 := by
  unfold eachE
  by_cases c : 4096 < L.length
  · rw [if_pos c]; exact ⟨fun h => absurd h (by decide), fun h => by omega⟩
  · rw [if_neg c, firstBad_zero]; exact ⟨fun h => ⟨by omega, h⟩, fun h => h.2⟩
theorem sortE_zero {L : List Bd} (h : sortE L = 0) : eachE L = 0 ∧ (allL L).length = L.length ∧ sortL L = allL L := by
  unfold sortE at h
  unfold sortL
  by_cases c : eachE L = 0
  · have d : ¬ (eachE L ≠ 0) := fun q => q c
    rw [if_neg d] at h ⊢
    by_cases e : (allL L).length < L.length
    · rw [if_pos e] at h; cases h
    · rw [if_neg e]; exact ⟨c, by have := (allL_asc L).2; omega, rfl⟩
  · rw [if_pos c] at h; exact absurd h c
theorem fold_all : ∀ (l m : List Bd), Asc m → (l.foldl addL m).length = m.length + l.length → ∀ y, y ∈ l ∨ y ∈ m → y ∈ l.foldl addL m
  | [], _, _, _, y, h => by rcases h with h | h; (· cases h); exact h
  | x :: l, m, hm, hl, y, h => by
    have a := addL_asc hm x
    have hl' : (l.foldl addL (addL m x)).length = m.length + (l.length + 1) := hl
    have b : ∀ (l m : List Bd), Asc m → (l.foldl addL m).length ≤ m.length + l.length := by
      intro l
      induction l with
      | nil => intro m _; simp
      | cons x l ih => intro m hm; have a := addL_asc hm x; have := ih (addL m x) a.1; simp only [List.foldl_cons, List.length_cons]; omega
    have c := b l (addL m x) a.1
    have e : (addL m x).length = m.length + 1 := by omega
    have p : addL m x = put m x false ∧ look m x.k = none := by
      unfold addL at e ⊢
      by_cases c1 : chkB x = 0
      · rw [if_neg (by simp [c1])] at e ⊢
        by_cases c2 : look m x.k = none
        · rw [if_neg (by simp [c2])] at e ⊢
          by_cases c3 : 4096 ≤ m.length
          · rw [if_pos c3] at e; omega
          · rw [if_neg c3]; exact ⟨rfl, c2⟩
        · rw [if_pos c2] at e; omega
      · rw [if_pos c1] at e; omega
    refine fold_all l (addL m x) a.1 (by omega) y ?_
    rcases h with h | h
    · rcases List.mem_cons.1 h with rfl | h
      · exact .inr (by rw [p.1]; exact (mem_put hm _ _).2 (.inl rfl))
      · exact .inl h
    · exact .inr (by rw [p.1]; exact (mem_put hm _ _).2 (.inr ⟨h, look_none.1 p.2 y h⟩))
theorem sortL_all {L : List Bd} (h : sortE L = 0) {x : Bd} (hx : x ∈ L) : x ∈ sortL L := by
  obtain ⟨_, h2, h3⟩ := sortE_zero h
  rw [h3]
  exact fold_all L [] trivial (by simpa [allL] using h2) x (.inl hx)
theorem sorted_each {L : List Bd} (h : sortE L = 0) : eachE (sortL L) = 0 := by
  have e := eachE_zero.1 (sortE_zero h).1
  exact eachE_zero.2 ⟨by have := (sortL_asc L).2; omega, fun x hx => e.2 x (sortL_mem hx)⟩
theorem sorted_check {L : List Bd} (h : sortE L = 0) : vchkE (sortL L) = 0 := by
  unfold vchkE
  rw [if_neg (by simp [sorted_each h]), if_pos (sortL_asc L).1]
theorem asc_mid : ∀ {m l : List Bd} {x : Bd}, Asc (m ++ x :: l) → Asc m ∧ ∀ y ∈ m, y.k < x.k
  | [], _, _, _ => ⟨trivial, fun _ h => by cases h⟩
  | a :: m, l, x, h => by
    have h' : Asc (a :: (m ++ x :: l)) := h
    have i := asc_mid h'.2
    refine ⟨⟨fun y hy => h'.1 y (by simp [hy]), i.1⟩, fun y hy => ?_⟩
    rcases List.mem_cons.1 hy with rfl | hy
    · exact h'.1 x (by simp)
    · exact i.2 y hy
theorem fold_sorted : ∀ (l m : List Bd), Asc (m ++ l) → (∀ x ∈ l, chkB x = 0) → (m ++ l).length ≤ 4096 → l.foldl addL m = m ++ l
  | [], m, _, _, _ => by simp
  | x :: l, m, h, hv, hl => by
    have i := asc_mid h
    have hlk : look m x.k = none := look_none.2 fun y hy => by have := i.2 y hy; omega
    have e : addL m x = m ++ [x] := by
      unfold addL
      rw [if_neg (by simp [hv x (by simp)]), if_neg (by simp [hlk]), if_neg (by simp at hl; omega), put_eq i.1]
      have f1 : m.filter (fun y => decide (y.k < x.k)) = m := List.filter_eq_self.2 fun y hy => by simpa using i.2 y hy
      have f2 : m.filter (fun y => decide (x.k < y.k)) = [] := List.filter_eq_nil_iff.2 fun y hy => by have := i.2 y hy; simp; omega
      rw [f1, f2]; simp
    rw [List.foldl_cons, e, fold_sorted l (m ++ [x]) (by simpa using h) (fun y hy => hv y (by simp [hy])) (by simpa using hl)]
    simp
theorem sort_view {A : List Bd} (h : Asc A) (he : eachE A = 0) : sortE A = 0 ∧ sortL A = A := by
  have e := eachE_zero.1 he
  have q : allL A = A := by simpa [allL] using fold_sorted A [] h e.2 e.1
  have c1 : ¬ (eachE A ≠ 0) := fun z => z he
  have c2 : ¬ ((allL A).length < A.length) := by rw [q]; omega
  constructor
  · unfold sortE; rw [if_neg c1, if_neg c2]
  · unfold sortL; rw [if_neg c1, if_neg c2, q]
/-- A body of a view: where it stands. -/
theorem at_of_mem {A : List Bd} (h : Asc A) {x : Bd} (hx : x ∈ A) : ∃ j : Nat, A[j]? = some x ∧ lessK A x.k = j ∧ look A x.k = some x := by
  obtain ⟨j, hj⟩ := List.mem_iff_getElem?.1 hx
  exact ⟨j, hj, lessK_at h hj, look_mem h.once hx⟩
theorem sortE_nil {L : List Bd} (h : sortE L ≠ 0) : sortL L = [] := by
  unfold sortE at h
  unfold sortL
  by_cases c : eachE L = 0
  · have d : ¬ (eachE L ≠ 0) := fun q => q c
    rw [if_neg d] at h ⊢
    by_cases e : (allL L).length < L.length
    · rw [if_pos e]
    · rw [if_neg e] at h; exact absurd rfl h
  · rw [if_pos c]

/-! ### parts -/
theorem asc_drop : ∀ (a : Nat) {A : List Bd}, Asc A → Asc (A.drop a)
  | 0, _, h => h
  | _ + 1, [], _ => trivial
  | a + 1, _ :: _, h => asc_drop a h.2
theorem asc_take : ∀ (a : Nat) {A : List Bd}, Asc A → Asc (A.take a)
  | 0, _, _ => by simp [Asc]
  | _ + 1, [], _ => trivial
  | a + 1, x :: l, h => by
    rw [List.take_succ_cons]
    exact ⟨fun y hy => h.1 y (List.mem_of_mem_take hy), asc_take a h.2⟩
theorem part_check {A : List Bd} (h : Asc A) (he : eachE A = 0) (a n : Nat) : vchkE ((A.drop a).take n) = 0 := by
  have e := eachE_zero.1 he
  unfold vchkE
  rw [if_neg, if_pos (asc_take _ (asc_drop _ h))]
  simp only [ne_eq, Decidable.not_not]
  refine eachE_zero.2 ⟨?_, fun x hx => e.2 x (List.mem_of_mem_drop (List.mem_of_mem_take hx))⟩
  rw [List.length_take, List.length_drop]
  omega
theorem asc_lt : ∀ {L : List Bd}, Asc L → ∀ {i j : Nat} {x y : Bd}, L[i]? = some x → L[j]? = some y → i < j → x.k < y.k
  | [], _, _, _, _, _, h, _, _ => by simp at h
  | _ :: _, _, _, 0, _, _, _, _, h => by omega
  | a :: l, h, 0, j + 1, x, y, hx, hy, _ => by
    simp at hx
    subst hx
    exact h.1 y (List.mem_of_getElem? (i := j) (by simpa using hy))
  | a :: l, h, i + 1, j + 1, x, y, hx, hy, hij => asc_lt h.2 (by simpa using hx) (by simpa using hy) (by omega)
theorem part_at {A : List Bd} {a n j : Nat} {y : Bd} (h : ((A.drop a).take n)[j]? = some y) : A[a + j]? = some y ∧ j < n := by
  rw [List.getElem?_take] at h
  split at h
  · exact ⟨by rwa [List.getElem?_drop] at h, by assumption⟩
  · cases h
theorem part_key {A : List Bd} (h : Asc A) {i : Nat} {x : Bd} (hx : A[i]? = some x) {a n j : Nat} {y : Bd} (hy : ((A.drop a).take n)[j]? = some y) : y.k < x.k ↔ a + j < i := by
  have hy2 := (part_at hy).1
  constructor
  · intro q
    by_cases c : i ≤ a + j
    · rcases Nat.lt_or_ge i (a + j) with c2 | c2
      · have := asc_lt h hx hy2 c2; omega
      · have e : i = a + j := by omega
        subst e; rw [hx] at hy2; injection hy2 with hy2; subst hy2; omega
    · omega
  · intro q; exact asc_lt h hy2 hx q
/-- How many keys of a part lie below that of the view's body i. -/
theorem part_less {A : List Bd} (h : Asc A) {i : Nat} {x : Bd} (hx : A[i]? = some x) (a n : Nat) (hn : a + n ≤ A.length) : lessK ((A.drop a).take n) x.k = min (i - a) n := by
  have hl : ((A.drop a).take n).length = n := by rw [List.length_take, List.length_drop]; omega
  have key := fun {j : Nat} {y : Bd} (hy : ((A.drop a).take n)[j]? = some y) => part_key h hx hy
  generalize (A.drop a).take n = P at hl key
  unfold lessK
  have e : P = P.take (i - a) ++ P.drop (i - a) := (List.take_append_drop _ _).symm
  rw [e, List.filter_append, List.filter_eq_self.2, List.filter_eq_nil_iff.2]
  · rw [List.append_nil, List.length_take, hl]
  · intro y hy
    obtain ⟨j, hj⟩ := List.mem_iff_getElem?.1 hy
    rw [List.getElem?_drop] at hj
    have := key hj
    simp only [decide_eq_true_eq]
    omega
  · intro y hy
    obtain ⟨j, hj⟩ := List.mem_iff_getElem?.1 hy
    rw [List.getElem?_take] at hj
    split at hj
    · have := key hj
      simp only [decide_eq_true_eq]
      omega
    · cases hj
theorem part_look {A : List Bd} (h : Asc A) {i : Nat} {x : Bd} (hx : A[i]? = some x) (a n : Nat) : (look ((A.drop a).take n) x.k).isSome = (decide (a ≤ i) && decide (i < a + n)) := by
  have hP : Asc ((A.drop a).take n) := asc_take _ (asc_drop _ h)
  cases c : (decide (a ≤ i) && decide (i < a + n)) with
  | true =>
    simp only [Bool.and_eq_true, decide_eq_true_eq] at c
    have : ((A.drop a).take n)[i - a]? = some x := by
      rw [List.getElem?_take, if_pos (by omega), List.getElem?_drop, show a + (i - a) = i by omega, hx]
    rw [look_mem hP.once (List.mem_of_getElem? this)]
    rfl
  | false =>
    cases lk : look ((A.drop a).take n) x.k with
    | none => rfl
    | some y =>
      obtain ⟨hy, hk⟩ := look_some lk
      obtain ⟨j, hj⟩ := List.mem_iff_getElem?.1 hy
      have q := part_key h hx hj
      have r := part_at hj
      have e : a + j = i := by
        rcases Nat.lt_trichotomy (a + j) i with z | z | z
        · have := q.2 z; omega
        · exact z
        · have := asc_lt h hx r.1 z; omega
      exfalso
      rw [Bool.and_eq_false_iff, decide_eq_false_iff_not, decide_eq_false_iff_not] at c
      omega
end Go.Proofs.Ytllkokfaodpfiaa
