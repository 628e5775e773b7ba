/-
  Package view: keys that stand once; the merge of two views. Plain mathematics.
-/
import Derived.Test.YtllkokfaodpfiaaViewMath2
namespace Go.Proofs.Ytllkokfaodpfiaa
open Go.RowKit Go.Lib

theorem once_iff : ∀ {l : List Bd}, Once l ↔ (l.map (·.k)).Nodup
  | [] => by simp [Once]
  | x :: l => by
    simp only [Once, List.map_cons, List.nodup_cons, List.mem_map, not_exists, not_and]
    rw [once_iff]
theorem once_perm {l m : List Bd} (h : l.Perm m) : Once l ↔ Once m := by
  rw [once_iff, once_iff]
  exact (h.map _).nodup_iff
theorem asc_of_le : ∀ {l : List Bd}, l.Pairwise (fun x y => x.k ≤ y.k) → Once l → Asc l
  | [], _, _ => trivial
  | x :: l, h, ⟨h1, h2⟩ => by
    obtain ⟨a, b⟩ := List.pairwise_cons.1 h
    exact ⟨fun y hy => by have := a y hy; have := h1 y hy; omega, asc_of_le b h2⟩
theorem fold_once : ∀ (l m : List Bd), Asc m → (∀ x ∈ l, chkB x = 0) → Once l → (∀ x ∈ l, look m x.k = none) → m.length + l.length ≤ 4096 → (l.foldl addL m).length = m.length + l.length
  | [], _, _, _, _, _, _ => by simp
  | x :: l, m, hm, hv, ⟨h1, h2⟩, hn, hl => by
    simp only [List.length_cons] at hl
    have e : addL m x = put m x false := by
      unfold addL
      rw [if_neg (by simp [hv x (by simp)]), if_neg (by simp [hn x (by simp)]), if_neg (by omega)]
    have pl := (put_len hm x).1 (hn x (by simp))
    have := fold_once l (put m x false) (put_asc hm x false) (fun y hy => hv y (by simp [hy])) h2 (fun y hy => by
      rw [look_put hm, if_neg (fun q => h1 y hy q.symm)]; exact hn y (by simp [hy])) (by omega)
    rw [List.foldl_cons, e, this, pl, List.length_cons]
    omega
theorem fold_le : ∀ (l m : List Bd), Asc m → (l.foldl addL m).length ≤ m.length + l.length
  | [], _, _ => by simp
  | x :: l, m, hm => by
    have a := addL_asc hm x
    have := fold_le l (addL m x) a.1
    simp only [List.foldl_cons, List.length_cons]
    omega
theorem fold_is_once : ∀ (l m : List Bd), Asc m → (l.foldl addL m).length = m.length + l.length → Once l ∧ ∀ x ∈ l, look m x.k = none
  | [], _, _, _ => ⟨trivial, fun _ h => by cases h⟩
  | x :: l, m, hm, hl => by
    have a := addL_asc hm x
    have c := fold_le l (addL m x) a.1
    simp only [List.foldl_cons, List.length_cons] at hl
    have e : (addL m x).length = m.length + 1 := by omega
    have p : addL m x = put m x false ∧ look m x.k = none := by
      unfold addL at e ⊢
      by_cases c1 : chkB x = 0
      · rw [if_neg (by simp [c1])] at e ⊢
        by_cases c2 : look m x.k = none
        · rw [if_neg (by simp [c2])] at e ⊢
          by_cases c3 : 4096 ≤ m.length
          · rw [if_pos c3] at e; omega
          · rw [if_neg c3]; exact ⟨rfl, c2⟩
        · rw [if_pos c2] at e; omega
      · rw [if_pos c1] at e; omega
    have ih := fold_is_once l (addL m x) a.1 (by omega)
    rw [p.1] at ih
    refine ⟨⟨fun y hy q => ?_, ih.1⟩, fun y hy => ?_⟩
    · have := ih.2 y hy
      rw [look_put hm, if_pos q.symm] at this
      cases this
    · rcases List.mem_cons.1 hy with rfl | hy
      · exact p.2
      · have := ih.2 y hy
        rw [look_put hm] at this
        split at this
        · cases this
        · exact this
/-- The reference's sorting drops a body exactly if a key stands twice. -/
theorem all_once {L : List Bd} (he : eachE L = 0) : (allL L).length < L.length ↔ ¬ Once L := by
  have e := eachE_zero.1 he
  constructor
  · intro h q
    have := fold_once L [] trivial e.2 q (fun _ _ => rfl) (by simpa using e.1)
    simp at this
    unfold allL at h
    omega
  · intro h
    have := (allL_asc L).2
    by_cases c : (allL L).length = L.length
    · exact absurd (fold_is_once L [] trivial (by simpa [allL] using c)).1 h
    · omega
theorem all_perm {L m : List Bd} (he : eachE L = 0) (hp : L.Perm m) (hm : Asc m) : allL L = m := by
  have ho : Once L := (once_perm hp).2 hm.once
  have e := eachE_zero.1 he
  have l := fold_once L [] trivial e.2 ho (fun _ _ => rfl) (by simpa using e.1)
  refine asc_ext (allL_asc L).1 hm fun key => look_perm (allL_asc L).1.once hm.once (fun x => ⟨fun h => hp.mem_iff.1 (allL_mem h), fun h => ?_⟩) key
  exact fold_all L [] trivial l x (.inl (hp.mem_iff.2 h))
theorem sort_is {L m : List Bd} (he : eachE L = 0) (hp : L.Perm m) (hm : Asc m) : sortE L = 0 ∧ sortL L = m := by
  have c : ¬ (allL L).length < L.length := fun q => (all_once he).1 q ((once_perm hp).2 hm.once)
  have d : ¬ (eachE L ≠ 0) := fun q => q he
  unfold sortE sortL
  rw [if_neg d, if_neg d, if_neg c, if_neg c]
  exact ⟨rfl, all_perm he hp hm⟩
theorem sort_dup {L m : List Bd} (he : eachE L = 0) (hp : L.Perm m) (hs : m.Pairwise fun x y => x.k ≤ y.k) (hm : ¬ Asc m) : sortE L = 10 ∧ sortL L = [] := by
  have c : (allL L).length < L.length := (all_once he).2 fun q => hm (asc_of_le hs ((once_perm hp).1 q))
  have d : ¬ (eachE L ≠ 0) := fun q => q he
  unfold sortE sortL
  rw [if_neg d, if_neg d, if_pos c, if_pos c]
  exact ⟨rfl, rfl⟩

/-! ### searching -/
theorem less_iff : ∀ {L : List Bd}, Asc L → ∀ {key : Int} {i : Nat} {x : Bd}, L[i]? = some x → (x.k < key ↔ i < lessK L key)
  | [], _, _, _, _, h => by simp at h
  | a :: l, ⟨h1, h2⟩, key, i, x, h => by
    by_cases c : a.k < key
    · have e : lessK (a :: l) key = lessK l key + 1 := by unfold lessK; rw [List.filter_cons_of_pos (by simpa using c)]; rfl
      rw [e]
      cases i with
      | zero => simp at h; subst h; constructor <;> intro _ <;> omega
      | succ i => have := less_iff h2 (key := key) (i := i) (x := x) (by simpa using h); omega
    · have e : lessK (a :: l) key = 0 := by
        unfold lessK
        rw [List.filter_eq_nil_iff.2 fun y hy => ?_]
        · rfl
        · rcases List.mem_cons.1 hy with rfl | hy
          · simpa using c
          · have := h1 y hy; simp; omega
      rw [e]
      have : a.k ≤ x.k := by
        rcases List.mem_cons.1 (List.mem_of_getElem? h) with rfl | hx
        · omega
        · have := h1 x hx; omega
      omega
theorem look_less {L : List Bd} (h : Asc L) {key : Int} {y : Bd} (e : look L key = some y) : L[lessK L key]? = some y := by
  obtain ⟨m, rfl⟩ := look_some e
  obtain ⟨j, hj, hl, _⟩ := at_of_mem h m
  rw [hl]; exact hj
theorem look_yes {L : List Bd} (h : Asc L) {key : Int} {x : Bd} (hx : L[lessK L key]? = some x) (e : x.k = key) : (look L key).isSome = true := by
  rw [← e, look_mem h.once (List.mem_of_getElem? hx)]; rfl
theorem look_not {L : List Bd} (h : Asc L) {key : Int} {x : Bd} (hx : L[lessK L key]? = some x) (e : x.k ≠ key) : (look L key).isSome = false := by
  cases q : look L key with
  | none => rfl
  | some y =>
    have := look_less h q
    rw [hx] at this
    injection this with this
    subst this
    exact absurd (look_some q).2 e
theorem look_end {L : List Bd} (h : Asc L) {key : Int} (hx : L.length ≤ lessK L key) : (look L key).isSome = false := by
  cases q : look L key with
  | none => rfl
  | some y =>
    have := (List.getElem?_eq_some_iff.1 (look_less h q)).1
    omega

/-! ### two views side by side -/
/-- What lies behind and what lies ahead. -/
def Mg (A B : List Bd) (i j : Nat) : Prop := (∀ (p q : Nat) (x y : Bd), i ≤ p → q < j → A[p]? = some x → B[q]? = some y → y.k < x.k) ∧ (∀ (p q : Nat) (x y : Bd), p < i → j ≤ q → A[p]? = some x → B[q]? = some y → x.k < y.k)
theorem mg_start (A B : List Bd) : Mg A B 0 0 := ⟨fun _ _ _ _ _ h => by omega, fun _ _ _ _ h => by omega⟩
theorem asc_at {L : List Bd} (h : Asc L) {i j : Nat} {x y : Bd} (hx : L[i]? = some x) (hy : L[j]? = some y) (hij : i ≤ j) : x.k ≤ y.k := by
  by_cases e : i = j
  · subst e; rw [hx] at hy; injection hy with hy; subst hy; omega
  · have := asc_lt h hx hy (by omega); omega
theorem mg_a {A B : List Bd} (hB : Asc B) {i j : Nat} (h : Mg A B i j) {x : Bd} (hx : A[i]? = some x) (hc : ∀ y, B[j]? = some y → x.k < y.k) : look B x.k = none ∧ Mg A B (i + 1) j := by
  have up : ∀ (q : Nat) (y : Bd), j ≤ q → B[q]? = some y → x.k < y.k := fun q y hq hy => by
    have hl := (List.getElem?_eq_some_iff.1 hy).1
    have hj : B[j]? = some (B[j]'(by omega)) := List.getElem?_eq_getElem _
    have := hc _ hj
    have := asc_at hB hj hy hq
    omega
  refine ⟨look_none.2 fun y hy => ?_, fun p q x' y hp hq => h.1 p q x' y (by omega) hq, fun p q x' y hp hq hx' hy => ?_⟩
  · obtain ⟨q, hq⟩ := List.mem_iff_getElem?.1 hy
    by_cases c : q < j
    · have := h.1 i q x y (by omega) c hx hq; omega
    · have := up q y (by omega) hq; omega
  · by_cases c : p = i
    · subst c; rw [hx] at hx'; injection hx' with hx'; subst hx'; exact up q y hq hy
    · exact h.2 p q x' y (by omega) hq hx' hy
theorem mg_b {A B : List Bd} (hA : Asc A) {i j : Nat} (h : Mg A B i j) {y : Bd} (hy : B[j]? = some y) (hc : ∀ x, A[i]? = some x → y.k < x.k) : look A y.k = none ∧ Mg A B i (j + 1) := by
  have up : ∀ (p : Nat) (x : Bd), i ≤ p → A[p]? = some x → y.k < x.k := fun p x hp hx => by
    have hl := (List.getElem?_eq_some_iff.1 hx).1
    have hi : A[i]? = some (A[i]'(by omega)) := List.getElem?_eq_getElem _
    have := hc _ hi
    have := asc_at hA hi hx hp
    omega
  refine ⟨look_none.2 fun x hx => ?_, fun p q x y' hp hq hx hy' => ?_, fun p q x y' hp hq => h.2 p q x y' hp (by omega)⟩
  · obtain ⟨p, hp⟩ := List.mem_iff_getElem?.1 hx
    by_cases c : p < i
    · have := h.2 p j x y c (by omega) hp hy; omega
    · have := up p x (by omega) hp; omega
  · by_cases c : q = j
    · subst c; rw [hy] at hy'; injection hy' with hy'; subst hy'; exact up p x hp hx
    · exact h.1 p q x y' hp (by omega) hx hy'
theorem mg_c {A B : List Bd} (hA : Asc A) (hB : Asc B) {i j : Nat} {x y : Bd} (hx : A[i]? = some x) (hy : B[j]? = some y) (e : x.k = y.k) : look B x.k = some y ∧ look A y.k = some x ∧ Mg A B (i + 1) (j + 1) := by
  refine ⟨by rw [e]; exact look_mem hB.once (List.mem_of_getElem? hy), by rw [← e]; exact look_mem hA.once (List.mem_of_getElem? hx), fun p q x' y' hp hq hx' hy' => ?_, fun p q x' y' hp hq hx' hy' => ?_⟩
  · have a := asc_lt hA hx hx' (by omega)
    have b := asc_at hB hy' hy (by omega)
    omega
  · have a := asc_at hA hx' hx (by omega)
    have b := asc_lt hB hy hy' (by omega)
    omega
end Go.Proofs.Ytllkokfaodpfiaa
