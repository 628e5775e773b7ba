/-
  Package view: what its laws say about lists of bodies.
-/
import Derived.Test.YtllkokfaodpfiaaViewEach
import Derived.Test.YtllkokfaodpfiaaViewTri
import Derived.Test.YtllkokfaodpfiaaBodySlice
namespace Go.Proofs.Ytllkokfaodpfiaa
open Go.RowKit Go.Lib

instance : DecidableEq Bd := fun x y => decidable_of_iff (eqB x y = true) eqB_iff
theorem addL_mem {m : List Bd} (h : Asc m) {x y : Bd} (hy : y ∈ addL m x) : y = x ∨ y ∈ m := by
  unfold addL at hy
  split at hy
  · exact .inr hy
  · split at hy
    · exact .inr hy
    · split at hy
      · exact .inr hy
      · rcases (mem_put h x y).1 hy with e | e
        · exact .inl e
        · exact .inr e.1
theorem fold_mem : ∀ (l m : List Bd), Asc m → ∀ y, y ∈ l.foldl addL m → y ∈ l ∨ y ∈ m
  | [], _, _, _, h => .inr h
  | x :: l, m, hm, y, h => by
    rcases fold_mem l (addL m x) (addL_asc hm x).1 y h with e | e
    · exact .inl (by simp [e])
    · rcases addL_mem hm e with e | e
      · exact .inl (by simp [e])
      · exact .inr e
theorem allL_mem {L : List Bd} {y : Bd} (h : y ∈ allL L) : y ∈ L := by
  rcases fold_mem L [] trivial y h with e | e
  · exact e
  · cases e
theorem sortL_mem {L : List Bd} {y : Bd} (h : y ∈ sortL L) : y ∈ L := by
  unfold sortL at h
  split at h
  · cases h
  · split at h
    · cases h
    · exact allL_mem h
theorem sortL_asc (L : List Bd) : Asc (sortL L) ∧ (sortL L).length ≤ L.length := by
  unfold sortL
  split
  · exact ⟨trivial, by simp⟩
  · split
    · exact ⟨trivial, by simp⟩
    · exact allL_asc L
theorem sortL_fits {L : List Bd} (h : ∀ x ∈ L, Fits x) : ∀ x ∈ sortL L, Fits x := fun x hx => h x (sortL_mem hx)

/-! ### the difference -/
theorem look_filter (p : Bd → Bool) : ∀ {l : List Bd}, Once l → ∀ key, look (l.filter p) key = (look l key).filter p
  | [], _, _ => rfl
  | x :: l, ⟨h1, h2⟩, key => by
    have ih := look_filter p h2 key
    by_cases c : x.k = key
    · have e : look (x :: l) key = some x := by simp [look, c]
      cases q : p x with
      | true => rw [e, List.filter_cons_of_pos q]; simp [look, c, Option.filter, q]
      | false =>
        rw [e, List.filter_cons_of_neg (by simp [q]), ih]
        have : look l key = none := look_none.2 fun y hy => by have := h1 y hy; omega
        rw [this]; simp [Option.filter, q]
    · have e : look (x :: l) key = look l key := by simp [look, c]
      cases q : p x with
      | true => rw [e, List.filter_cons_of_pos q, ← ih]; simp [look, c]
      | false => rw [e, List.filter_cons_of_neg (by simp [q]), ih]
theorem look_bare : ∀ (l : List Bd) (key : Int), look (l.map fun x => bare x.k) key = if (look l key).isSome then some (bare key) else none
  | [], _ => rfl
  | x :: l, key => by
    have ih := look_bare l key
    by_cases c : x.k = key
    · simp [look, bare, c]
    · rw [List.map_cons, look, look, if_neg c, if_neg (by simpa [bare] using c), ih]
theorem asc_bare : ∀ {l : List Bd}, Asc l → Asc (l.map fun x => bare x.k)
  | [], _ => trivial
  | x :: l, ⟨h1, h2⟩ => ⟨fun y hy => by
      obtain ⟨z, hz, rfl⟩ := List.mem_map.1 hy
      exact h1 z hz, asc_bare h2⟩
/-- Two ascending lists that have the same keys. -/
theorem keys_ext {a b : List Bd} (ha : Asc a) (hb : Asc b) (h : ∀ key, (look a key).isSome = (look b key).isSome) : a.map (·.k) = b.map (·.k) := by
  have e := asc_ext (asc_bare ha) (asc_bare hb) (fun key => by rw [look_bare, look_bare, h])
  have := congrArg (List.map (·.k)) e
  simpa [bare, Function.comp_def] using this
theorem eqB_comm (x y : Bd) : eqB x y = eqB y x := by
  cases c : eqB x y with
  | true => have := eqB_iff.1 c; subst this; exact c.symm
  | false =>
    cases d : eqB y x with
    | true => have := eqB_iff.1 d; subst this; rw [c] at d; cases d
    | false => rfl
theorem chg_comm {A B : List Bd} (hA : Asc A) (hB : Asc B) : chgL A B = chgL B A := by
  refine keys_ext (asc_filter _ hA) (asc_filter _ hB) fun key => ?_
  rw [look_filter _ hA.once, look_filter _ hB.once]
  cases ea : look A key with
  | none =>
    cases eb : look B key with
    | none => rfl
    | some y => have := (look_some eb).2; simp [Option.filter, chgB, this, ea]
  | some x =>
    have hx := (look_some ea).2
    cases eb : look B key with
    | none => simp [Option.filter, chgB, hx, eb]
    | some y =>
      have hy := (look_some eb).2
      simp only [Option.filter, chgB, hx, hy, ea, eb]
      rw [eqB_comm x y]
      cases eqB y x <;> rfl
theorem map_nil {l : List Bd} (p : Bd → Bool) : (l.filter p).map (·.k) = [] ↔ ∀ x ∈ l, p x = false := by
  rw [List.map_eq_nil_iff, List.filter_eq_nil_iff]
  simp
/-- The difference is empty exactly if the views are equal. -/
theorem diff_nil {A B : List Bd} (hA : Asc A) (hB : Asc B) : (remL B A = [] ∧ remL A B = [] ∧ chgL A B = []) ↔ A = B := by
  constructor
  · rintro ⟨h1, h2, h3⟩
    have h1 := (map_nil _).1 h1
    have h2 := (map_nil _).1 h2
    have h3 := (map_nil _).1 h3
    refine asc_ext hA hB fun key => ?_
    cases ea : look A key with
    | none =>
      cases eb : look B key with
      | none => rfl
      | some y =>
        have hy := look_some eb
        have := h1 y hy.1
        rw [hy.2, ea] at this
        cases this
    | some x =>
      have hx := look_some ea
      have q := h2 x hx.1
      have r := h3 x hx.1
      cases eb : look B key with
      | none => rw [hx.2, eb] at q; cases q
      | some y =>
        rw [chg_some (y := y) (by rw [hx.2]; exact eb)] at r
        have := eqB_iff.1 (show eqB y x = true by simpa using r)
        rw [this]
  · rintro rfl
    have g : ∀ x ∈ A, look A x.k = some x := fun x hx => look_mem hA.once hx
    refine ⟨(map_nil _).2 fun x hx => by rw [g x hx]; rfl, (map_nil _).2 fun x hx => by rw [g x hx]; rfl, (map_nil _).2 fun x hx => ?_⟩
    rw [chg_some (g x hx), eqB_iff.2 rfl]
    rfl
/-- How many keys lie below. -/
def lessK (L : List Bd) (key : Int) : Nat := (L.filter fun x => decide (x.k < key)).length
theorem lessK_take {L : List Bd} {k : Nat} {x : Bd} (key : Int) (hx : L[k]? = some x) : lessK (L.take (k + 1)) key = lessK (L.take k) key + if x.k < key then 1 else 0 := by
  rw [List.take_add_one, hx]
  unfold lessK
  rw [List.filter_append, List.length_append]
  congr 1
  by_cases c : x.k < key <;> simp [c]
theorem lessK_le (L : List Bd) (key : Int) : lessK L key ≤ L.length := List.length_filter_le _ _
/-- In an ascending list the bodies with smaller keys stand ahead. -/
theorem lessK_at : ∀ {L : List Bd}, Asc L → ∀ {i : Nat} {x : Bd}, L[i]? = some x → lessK L x.k = i
  | [], _, _, _, h => by simp at h
  | a :: l, ⟨h1, h2⟩, 0, x, h => by
    simp at h
    subst h
    have : (a :: l).filter (fun y => decide (y.k < a.k)) = [] := List.filter_eq_nil_iff.2 fun y hy => by
      rcases List.mem_cons.1 hy with rfl | hy
      · simp
      · have := h1 y hy; simp; omega
    simp [lessK, this]
  | a :: l, ⟨h1, h2⟩, i + 1, x, h => by
    have hx : l[i]? = some x := by simpa using h
    have := h1 x (List.mem_of_getElem? hx)
    have ih := lessK_at h2 hx
    unfold lessK at ih ⊢
    rw [List.filter_cons_of_pos (by simpa using this), List.length_cons, ih]
end Go.Proofs.Ytllkokfaodpfiaa
