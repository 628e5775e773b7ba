import Derived.Test.YtaknmlohnifcdaaGreatDoorJ05MStorePut
import Derived.Test.YtaknmlohnifcdaaGreatDoorMBodySlice
import Derived.Test.YtaknmlohnifcdaaGreatDoorJ02MSeq
import Derived.Test.YtaknmlohnifcdaaGreatDoorJ04MSortMath
import Derived.Deep.DeepCutAuto
import Derived.Deep.QuietTactic
import Derived.BigQuiet
set_option maxHeartbeats 2000000
set_option maxRecDepth 100000
namespace Go.Proofs.YtaknmlohnifcdaaGreatDoor
open Go.RowKit Go.Lib
instance : DecidableEq Bd := fun x y => decidable_of_iff (eqB x y = true) eqB_iff
theorem addL_mem {m : List Bd} (h : Asc m) {x y : Bd} (hy : y ∈ addL m x) : y = x ∨ y ∈ m := by
 unfold addL at hy
 split at hy
 ·exact .inr hy
 ·split at hy
  ·exact .inr hy
  ·split at hy
   ·exact .inr hy
   ·rcases (mem_put h x y).1 hy with e | e
    ·exact .inl e
    ·exact .inr e.1
theorem fold_mem : ∀ (l m : List Bd), Asc m → ∀ y, y ∈ l.foldl addL m → y ∈ l ∨ y ∈ m
 | [], _, _, _, h => .inr h
 | x :: l, m, hm, y, h => by
   rcases fold_mem l (addL m x) (addL_asc hm x).1 y h with e | e
   ·exact .inl (by simp [e])
   ·rcases addL_mem hm e with e | e
    ·exact .inl (by simp [e])
    ·exact .inr e
theorem allL_mem {L : List Bd} {y : Bd} (h : y ∈ allL L) : y ∈ L := by
 rcases fold_mem L [] trivial y h with e | e
 ·exact e
 ·cases e
theorem sortL_mem {L : List Bd} {y : Bd} (h : y ∈ sortL L) : y ∈ L := by
 unfold sortL at h
 split at h
 ·cases h
 ·split at h
  ·cases h
  ·exact allL_mem h
theorem sortL_asc (L : List Bd) : Asc (sortL L) ∧ (sortL L).length ≤ L.length := by
 unfold sortL
 split
 ·exact ⟨trivial, by simp⟩
 ·split
  ·exact ⟨trivial, by simp⟩
  ·exact allL_asc L
theorem sortL_fits {L : List Bd} (h : ∀ x ∈ L, Fits x) : ∀ x ∈ sortL L, Fits x := fun x hx => h x (sortL_mem hx)

/-! ### the difference -/
theorem look_filter (p : Bd → Bool) : ∀ {l : List Bd}, Once l → ∀ key, look (l.filter p) key = (look l key).filter p
 | [], _, _ => rfl
 | x :: l, ⟨h1, h2⟩, key => by
   have ih := look_filter p h2 key
   by_cases c : x.k = key
   ·have e : look (x :: l) key = some x := by simp [look, c]
    cases q : p x with
    | true => rw [e, List.filter_cons_of_pos q]; simp [look, c, Option.filter, q]
    | false =>
      rw [e, List.filter_cons_of_neg (by simp [q]), ih]
      have : look l key = none := look_none.2 fun y hy => by have := h1 y hy; omega
      rw [this]; simp [Option.filter, q]
   ·have e : look (x :: l) key = look l key := by simp [look, c]
    cases q : p x with
    | true => rw [e, List.filter_cons_of_pos q, ← ih]; simp [look, c]
    | false => rw [e, List.filter_cons_of_neg (by simp [q]), ih]
theorem look_bare : ∀ (l : List Bd) (key : Int), look (l.map fun x => bare x.k) key = if (look l key).isSome then some (bare key) else none
 | [], _ => rfl
 | x :: l, key => by
   have ih := look_bare l key
   by_cases c : x.k = key
   ·simp [look, bare, c]
   ·rw [List.map_cons, look, look, if_neg c, if_neg (by simpa [bare] using c), ih]
theorem asc_bare : ∀ {l : List Bd}, Asc l → Asc (l.map fun x => bare x.k)
 | [], _ => trivial
 | x :: l, ⟨h1, h2⟩ => ⟨fun y hy => by
    obtain ⟨z, hz, rfl⟩ := List.mem_map.1 hy
    exact h1 z hz, asc_bare h2⟩
theorem keys_ext {a b : List Bd} (ha : Asc a) (hb : Asc b) (h : ∀ key, (look a key).isSome = (look b key).isSome) : a.map (·.k) = b.map (·.k) := by
 have e := asc_ext (asc_bare ha) (asc_bare hb) (fun key => by rw [look_bare, look_bare, h])
 have := congrArg (List.map (·.k)) e
 simpa [bare, Function.comp_def] using this
theorem eqB_comm (x y : Bd) : eqB x y = eqB y x := by
 cases c : eqB x y with
 | true => have := eqB_iff.1 c; subst this; exact c.symm
 | false =>
   cases d : eqB y x with
   | true => have := eqB_iff.1 d; subst this; rw [c] at d; cases d
   | false => rfl
theorem chg_comm {A B : List Bd} (hA : Asc A) (hB : Asc B) : chgL A B = chgL B A := by
 refine keys_ext (asc_filter _ hA) (asc_filter _ hB) fun key => ?_
 rw [look_filter _ hA.once, look_filter _ hB.once]
 cases ea : look A key with
 | none =>
   cases eb : look B key with
   | none => rfl
   | some y => have := (look_some eb).2; simp [Option.filter, chgB, this, ea]
 | some x =>
   have hx := (look_some ea).2
   cases eb : look B key with
   | none => simp [Option.filter, chgB, hx, eb]
   | some y =>
     have hy := (look_some eb).2
     simp only [Option.filter, chgB, hx, hy, ea, eb]
     rw [eqB_comm x y]
     cases eqB y x <;> rfl
theorem map_nil {l : List Bd} (p : Bd → Bool) : (l.filter p).map (·.k) = [] ↔ ∀ x ∈ l, p x = false := by
 rw [List.map_eq_nil_iff, List.filter_eq_nil_iff]
 simp
theorem diff_nil {A B : List Bd} (hA : Asc A) (hB : Asc B) : (remL B A = [] ∧ remL A B = [] ∧ chgL A B = []) ↔ A = B := by
 constructor
 ·rintro ⟨h1, h2, h3⟩
  have h1 := (map_nil _).1 h1
  have h2 := (map_nil _).1 h2
  have h3 := (map_nil _).1 h3
  refine asc_ext hA hB fun key => ?_
  cases ea : look A key with
  | none =>
    cases eb : look B key with
    | none => rfl
    | some y =>
      have hy := look_some eb
      have := h1 y hy.1
      rw [hy.2, ea] at this
      cases this
  | some x =>
    have hx := look_some ea
    have q := h2 x hx.1
    have r := h3 x hx.1
    cases eb : look B key with
    | none => rw [hx.2, eb] at q; cases q
    | some y =>
      rw [chg_some (y := y) (by rw [hx.2]; exact eb)] at r
      have := eqB_iff.1 (show eqB y x = true by simpa using r)
      rw [this]
 ·rintro rfl
  have g : ∀ x ∈ A, look A x.k = some x := fun x hx => look_mem hA.once hx
  refine ⟨(map_nil _).2 fun x hx => by rw [g x hx]; rfl, (map_nil _).2 fun x hx => by rw [g x hx]; rfl, (map_nil _).2 fun x hx => ?_⟩
  rw [chg_some (g x hx), eqB_iff.2 rfl]
  rfl
def lessK (L : List Bd) (key : Int) : Nat := (L.filter fun x => decide (x.k < key)).length
theorem lessK_take {L : List Bd} {k : Nat} {x : Bd} (key : Int) (hx : L[k]? = some x) : lessK (L.take (k + 1)) key = lessK (L.take k) key + if x.k < key then 1 else 0 := by
 rw [List.take_add_one, hx]
 unfold lessK
 rw [List.filter_append, List.length_append]
 congr 1
 by_cases c : x.k < key <;> simp [c]
theorem lessK_le (L : List Bd) (key : Int) : lessK L key ≤ L.length := List.length_filter_le _ _
theorem lessK_at : ∀ {L : List Bd}, Asc L → ∀ {i : Nat} {x : Bd}, L[i]? = some x → lessK L x.k = i
 | [], _, _, _, h => by simp at h
 | a :: l, ⟨h1, h2⟩, 0, x, h => by
   simp at h
   subst h
   have : (a :: l).filter (fun y => decide (y.k < a.k)) = [] := List.filter_eq_nil_iff.2 fun y hy => by
    rcases List.mem_cons.1 hy with rfl | hy
    ·simp
    ·have := h1 y hy; simp; omega
   simp [lessK, this]
 | a :: l, ⟨h1, h2⟩, i + 1, x, h => by
   have hx : l[i]? = some x := by simpa using h
   have := h1 x (List.mem_of_getElem? hx)
   have ih := lessK_at h2 hx
   unfold lessK at ih ⊢
   rw [List.filter_cons_of_pos (by simpa using this), List.length_cons, ih]
theorem firstBad_zero : ∀ {L : List Bd}, firstBad L = 0 ↔ ∀ x ∈ L, chkB x = 0
 | [] => by simp [firstBad]
 | x :: l => by
   unfold firstBad
   by_cases c : chkB x = 0
   ·rw [if_neg (by simp [c]), firstBad_zero]; simp [c]
   ·rw [if_pos c]
    exact ⟨fun h => absurd h c, fun h => h x (by simp)⟩
theorem eachE_zero {L : List Bd} : eachE L = 0 ↔ L.length ≤ 4096 ∧ ∀ x ∈ L, chkB x = 0 := by
 unfold eachE
 by_cases c : 4096 < L.length
 ·rw [if_pos c]; exact ⟨fun h => absurd h (by decide), fun h => by omega⟩
 ·rw [if_neg c, firstBad_zero]; exact ⟨fun h => ⟨by omega, h⟩, fun h => h.2⟩
theorem sortE_zero {L : List Bd} (h : sortE L = 0) : eachE L = 0 ∧ (allL L).length = L.length ∧ sortL L = allL L := by
 unfold sortE at h
 unfold sortL
 by_cases c : eachE L = 0
 ·have d : ¬ (eachE L ≠ 0) := fun q => q c
  rw [if_neg d] at h ⊢
  by_cases e : (allL L).length < L.length
  ·rw [if_pos e] at h; cases h
  ·rw [if_neg e]; exact ⟨c, by have := (allL_asc L).2; omega, rfl⟩
 ·rw [if_pos c] at h; exact absurd h c
theorem fold_all : ∀ (l m : List Bd), Asc m → (l.foldl addL m).length = m.length + l.length → ∀ y, y ∈ l ∨ y ∈ m → y ∈ l.foldl addL m
 | [], _, _, _, y, h => by rcases h with h | h; (· cases h); exact h
 | x :: l, m, hm, hl, y, h => by
   have a := addL_asc hm x
   have hl' : (l.foldl addL (addL m x)).length = m.length + (l.length + 1) := hl
   have b : ∀ (l m : List Bd), Asc m → (l.foldl addL m).length ≤ m.length + l.length := by
    intro l
    induction l with
    | nil => intro m _; simp
    | cons x l ih => intro m hm; have a := addL_asc hm x; have := ih (addL m x) a.1; simp only [List.foldl_cons, List.length_cons]; omega
   have c := b l (addL m x) a.1
   have e : (addL m x).length = m.length + 1 := by omega
   have p : addL m x = put m x false ∧ look m x.k = none := by
    unfold addL at e ⊢
    by_cases c1 : chkB x = 0
    ·rw [if_neg (by simp [c1])] at e ⊢
     by_cases c2 : look m x.k = none
     ·rw [if_neg (by simp [c2])] at e ⊢
      by_cases c3 : 4096 ≤ m.length
      ·rw [if_pos c3] at e; omega
      ·rw [if_neg c3]; exact ⟨rfl, c2⟩
     ·rw [if_pos c2] at e; omega
    ·rw [if_pos c1] at e; omega
   refine fold_all l (addL m x) a.1 (by omega) y ?_
   rcases h with h | h
   ·rcases List.mem_cons.1 h with rfl | h
    ·exact .inr (by rw [p.1]; exact (mem_put hm _ _).2 (.inl rfl))
    ·exact .inl h
   ·exact .inr (by rw [p.1]; exact (mem_put hm _ _).2 (.inr ⟨h, look_none.1 p.2 y h⟩))
theorem sortL_all {L : List Bd} (h : sortE L = 0) {x : Bd} (hx : x ∈ L) : x ∈ sortL L := by
 obtain ⟨_, h2, h3⟩ := sortE_zero h
 rw [h3]
 exact fold_all L [] trivial (by simpa [allL] using h2) x (.inl hx)
theorem sorted_each {L : List Bd} (h : sortE L = 0) : eachE (sortL L) = 0 := by
 have e := eachE_zero.1 (sortE_zero h).1
 exact eachE_zero.2 ⟨by have := (sortL_asc L).2; omega, fun x hx => e.2 x (sortL_mem hx)⟩
theorem sorted_check {L : List Bd} (h : sortE L = 0) : vchkE (sortL L) = 0 := by
 unfold vchkE
 rw [if_neg (by simp [sorted_each h]), if_pos (sortL_asc L).1]
theorem asc_mid : ∀ {m l : List Bd} {x : Bd}, Asc (m ++ x :: l) → Asc m ∧ ∀ y ∈ m, y.k < x.k
 | [], _, _, _ => ⟨trivial, fun _ h => by cases h⟩
 | a :: m, l, x, h => by
   have h' : Asc (a :: (m ++ x :: l)) := h
   have i := asc_mid h'.2
   refine ⟨⟨fun y hy => h'.1 y (by simp [hy]), i.1⟩, fun y hy => ?_⟩
   rcases List.mem_cons.1 hy with rfl | hy
   ·exact h'.1 x (by simp)
   ·exact i.2 y hy
theorem fold_sorted : ∀ (l m : List Bd), Asc (m ++ l) → (∀ x ∈ l, chkB x = 0) → (m ++ l).length ≤ 4096 → l.foldl addL m = m ++ l
 | [], m, _, _, _ => by simp
 | x :: l, m, h, hv, hl => by
   have i := asc_mid h
   have hlk : look m x.k = none := look_none.2 fun y hy => by have := i.2 y hy; omega
   have e : addL m x = m ++ [x] := by
    unfold addL
    rw [if_neg (by simp [hv x (by simp)]), if_neg (by simp [hlk]), if_neg (by simp at hl; omega), put_eq i.1]
    have f1 : m.filter (fun y => decide (y.k < x.k)) = m := List.filter_eq_self.2 fun y hy => by simpa using i.2 y hy
    have f2 : m.filter (fun y => decide (x.k < y.k)) = [] := List.filter_eq_nil_iff.2 fun y hy => by have := i.2 y hy; simp; omega
    rw [f1, f2]; simp
   rw [List.foldl_cons, e, fold_sorted l (m ++ [x]) (by simpa using h) (fun y hy => hv y (by simp [hy])) (by simpa using hl)]
   simp
theorem sort_view {A : List Bd} (h : Asc A) (he : eachE A = 0) : sortE A = 0 ∧ sortL A = A := by
 have e := eachE_zero.1 he
 have q : allL A = A := by simpa [allL] using fold_sorted A [] h e.2 e.1
 have c1 : ¬ (eachE A ≠ 0) := fun z => z he
 have c2 : ¬ ((allL A).length < A.length) := by rw [q]; omega
 constructor
 ·unfold sortE; rw [if_neg c1, if_neg c2]
 ·unfold sortL; rw [if_neg c1, if_neg c2, q]
theorem at_of_mem {A : List Bd} (h : Asc A) {x : Bd} (hx : x ∈ A) : ∃ j : Nat, A[j]? = some x ∧ lessK A x.k = j ∧ look A x.k = some x := by
 obtain ⟨j, hj⟩ := List.mem_iff_getElem?.1 hx
 exact ⟨j, hj, lessK_at h hj, look_mem h.once hx⟩
theorem sortE_nil {L : List Bd} (h : sortE L ≠ 0) : sortL L = [] := by
 unfold sortE at h
 unfold sortL
 by_cases c : eachE L = 0
 ·have d : ¬ (eachE L ≠ 0) := fun q => q c
  rw [if_neg d] at h ⊢
  by_cases e : (allL L).length < L.length
  ·rw [if_pos e]
  ·rw [if_neg e] at h; exact absurd rfl h
 ·rw [if_pos c]

/-! ### parts -/
theorem asc_drop : ∀ (a : Nat) {A : List Bd}, Asc A → Asc (A.drop a)
 | 0, _, h => h
 | _ + 1, [], _ => trivial
 | a + 1, _ :: _, h => asc_drop a h.2
theorem asc_take : ∀ (a : Nat) {A : List Bd}, Asc A → Asc (A.take a)
 | 0, _, _ => by simp [Asc]
 | _ + 1, [], _ => trivial
 | a + 1, x :: l, h => by
   rw [List.take_succ_cons]
   exact ⟨fun y hy => h.1 y (List.mem_of_mem_take hy), asc_take a h.2⟩
theorem part_check {A : List Bd} (h : Asc A) (he : eachE A = 0) (a n : Nat) : vchkE ((A.drop a).take n) = 0 := by
 have e := eachE_zero.1 he
 unfold vchkE
 rw [if_neg, if_pos (asc_take _ (asc_drop _ h))]
 simp only [ne_eq, Decidable.not_not]
 refine eachE_zero.2 ⟨?_, fun x hx => e.2 x (List.mem_of_mem_drop (List.mem_of_mem_take hx))⟩
 rw [List.length_take, List.length_drop]
 omega
theorem asc_lt : ∀ {L : List Bd}, Asc L → ∀ {i j : Nat} {x y : Bd}, L[i]? = some x → L[j]? = some y → i < j → x.k < y.k
 | [], _, _, _, _, _, h, _, _ => by simp at h
 | _ :: _, _, _, 0, _, _, _, _, h => by omega
 | a :: l, h, 0, j + 1, x, y, hx, hy, _ => by
   simp at hx
   subst hx
   exact h.1 y (List.mem_of_getElem? (i := j) (by simpa using hy))
 | a :: l, h, i + 1, j + 1, x, y, hx, hy, hij => asc_lt h.2 (by simpa using hx) (by simpa using hy) (by omega)
theorem part_at {A : List Bd} {a n j : Nat} {y : Bd} (h : ((A.drop a).take n)[j]? = some y) : A[a + j]? = some y ∧ j < n := by
 rw [List.getElem?_take] at h
 split at h
 ·exact ⟨by rwa [List.getElem?_drop] at h, by assumption⟩
 ·cases h
theorem part_key {A : List Bd} (h : Asc A) {i : Nat} {x : Bd} (hx : A[i]? = some x) {a n j : Nat} {y : Bd} (hy : ((A.drop a).take n)[j]? = some y) : y.k < x.k ↔ a + j < i := by
 have hy2 := (part_at hy).1
 constructor
 ·intro q
  by_cases c : i ≤ a + j
  ·rcases Nat.lt_or_ge i (a + j) with c2 | c2
   ·have := asc_lt h hx hy2 c2; omega
   ·have e : i = a + j := by omega
    subst e; rw [hx] at hy2; injection hy2 with hy2; subst hy2; omega
  ·omega
 ·intro q; exact asc_lt h hy2 hx q
theorem part_less {A : List Bd} (h : Asc A) {i : Nat} {x : Bd} (hx : A[i]? = some x) (a n : Nat) (hn : a + n ≤ A.length) : lessK ((A.drop a).take n) x.k = min (i - a) n := by
 have hl : ((A.drop a).take n).length = n := by rw [List.length_take, List.length_drop]; omega
 have key := fun {j : Nat} {y : Bd} (hy : ((A.drop a).take n)[j]? = some y) => part_key h hx hy
 generalize (A.drop a).take n = P at hl key
 unfold lessK
 have e : P = P.take (i - a) ++ P.drop (i - a) := (List.take_append_drop _ _).symm
 rw [e, List.filter_append, List.filter_eq_self.2, List.filter_eq_nil_iff.2]
 ·rw [List.append_nil, List.length_take, hl]
 ·intro y hy
  obtain ⟨j, hj⟩ := List.mem_iff_getElem?.1 hy
  rw [List.getElem?_drop] at hj
  have := key hj
  simp only [decide_eq_true_eq]
  omega
 ·intro y hy
  obtain ⟨j, hj⟩ := List.mem_iff_getElem?.1 hy
  rw [List.getElem?_take] at hj
  split at hj
  ·have := key hj
   simp only [decide_eq_true_eq]
   omega
  ·cases hj
theorem part_look {A : List Bd} (h : Asc A) {i : Nat} {x : Bd} (hx : A[i]? = some x) (a n : Nat) : (look ((A.drop a).take n) x.k).isSome = (decide (a ≤ i) && decide (i < a + n)) := by
 have hP : Asc ((A.drop a).take n) := asc_take _ (asc_drop _ h)
 cases c : (decide (a ≤ i) && decide (i < a + n)) with
 | true =>
   simp only [Bool.and_eq_true, decide_eq_true_eq] at c
   have : ((A.drop a).take n)[i - a]? = some x := by
    rw [List.getElem?_take, if_pos (by omega), List.getElem?_drop, show a + (i - a) = i by omega, hx]
   rw [look_mem hP.once (List.mem_of_getElem? this)]
   rfl
 | false =>
   cases lk : look ((A.drop a).take n) x.k with
   | none => rfl
   | some y =>
     obtain ⟨hy, hk⟩ := look_some lk
     obtain ⟨j, hj⟩ := List.mem_iff_getElem?.1 hy
     have q := part_key h hx hj
     have r := part_at hj
     have e : a + j = i := by
      rcases Nat.lt_trichotomy (a + j) i with z | z | z
      ·have := q.2 z; omega
      ·exact z
      ·have := asc_lt h hx r.1 z; omega
     exfalso
     rw [Bool.and_eq_false_iff, decide_eq_false_iff_not, decide_eq_false_iff_not] at c
     omega
def exB (x : Bd) : Int := max x.ax (-x.ax) + x.r
def eyB (x : Bd) : Int := max x.ay (-x.ay) + x.r
def ovA (x : Bd) (a b c d : Int) : Bool := ovlB (x.px - exB x) (x.py - eyB x) (x.px + exB x) (x.py + eyB x) a b c d
def ovP (x y : Bd) : Bool := ovA x (y.px - exB y) (y.py - eyB y) (y.px + exB y) (y.py + eyB y)
def prO (x : Bd) (l : List Bd) : List (Int × Int) := (l.filter (ovP x)).map fun y => (x.k, y.k)
def pairsL : List Bd → List (Int × Int)
 | [] => []
 | x :: l => prO x l ++ pairsL l
theorem prO_cons (x y : Bd) (l : List Bd) : prO x (y :: l) = if ovP x y = true then (x.k, y.k) :: prO x l else prO x l := by
 unfold prO
 by_cases c : ovP x y = true
 ·rw [if_pos c, List.filter_cons_of_pos c, List.map_cons]
 ·rw [if_neg c, List.filter_cons_of_neg c]
theorem drop_at {α : Type} {L : List α} {i : Nat} {x : α} (h : L[i]? = some x) : L.drop i = x :: L.drop (i + 1) := by
 obtain ⟨hi, rfl⟩ := List.getElem?_eq_some_iff.1 h
 exact List.drop_eq_getElem_cons hi
theorem prO_len (x : Bd) (l : List Bd) : (prO x l).length ≤ l.length := by
 unfold prO
 rw [List.length_map]
 exact List.length_filter_le _ _
theorem pairs_len : ∀ (L : List Bd), 2 * (pairsL L).length ≤ L.length * (L.length - 1)
 | [] => by simp [pairsL]
 | x :: l => by
   have h1 := pairs_len l
   have h2 := prO_len x l
   have e : (pairsL (x :: l)).length = (prO x l).length + (pairsL l).length := by simp [pairsL]
   rw [e, List.length_cons, Nat.add_sub_cancel]
   generalize (prO x l).length = a at *
   generalize (pairsL l).length = b at *
   generalize l.length = n at *
   cases n with
   | zero => simp at h1 h2 ⊢; omega
   | succ n =>
     rw [Nat.add_sub_cancel] at h1
     have e2 : (n + 1 + 1) * (n + 1) = (n + 1) * n + 2 * (n + 1) := by
      rw [Nat.mul_comm (n + 1 + 1), ← Nat.mul_comm (n + 1) 2, ← Nat.mul_add]
     omega
theorem pairs_max {L : List Bd} (h : L.length ≤ 40) : (pairsL L).length ≤ 780 := by
 have h1 := pairs_len L
 have h2 := Nat.mul_le_mul h (show L.length - 1 ≤ 39 by omega)
 omega
theorem pairs_mem : ∀ {L : List Bd}, Asc L → ∀ p : Int × Int, p ∈ pairsL L ↔ ∃ x ∈ L, ∃ y ∈ L, x.k < y.k ∧ ovP x y = true ∧ p = (x.k, y.k)
 | [], _, p => by simp [pairsL]
 | a :: l, h, p => by
   simp only [pairsL, List.mem_append, pairs_mem h.2]
   constructor
   ·rintro (hp | ⟨x, hx, y, hy, h1, h2, rfl⟩)
    ·unfold prO at hp
     obtain ⟨y, hy, rfl⟩ := List.mem_map.1 hp
     rw [List.mem_filter] at hy
     exact ⟨a, by simp, y, by simp [hy.1], h.1 y hy.1, hy.2, rfl⟩
    ·exact ⟨x, by simp [hx], y, by simp [hy], h1, h2, rfl⟩
   ·rintro ⟨x, hx, y, hy, h1, h2, rfl⟩
    rcases List.mem_cons.1 hx with e | hx2
    ·rcases List.mem_cons.1 hy with e2 | hy2
     ·rw [e, e2] at h1; omega
     ·rw [e] at h2 ⊢
      exact .inl (by unfold prO; exact List.mem_map.2 ⟨y, List.mem_filter.2 ⟨hy2, h2⟩, rfl⟩)
    ·rcases List.mem_cons.1 hy with e2 | hy2
     ·have := h.1 x hx2; rw [e2] at h1; omega
     ·exact .inr ⟨x, hx2, y, hy2, h1, h2, rfl⟩
theorem prO_sort (x : Bd) : ∀ {l : List Bd}, Asc l → SortS pless (prO x l)
 | [], _ => List.Pairwise.nil
 | y :: l, h => by
   rw [prO_cons]
   by_cases c : ovP x y = true
   ·rw [if_pos c]
    refine List.Pairwise.cons (fun p hp => ?_) (prO_sort x h.2)
    unfold prO at hp
    obtain ⟨z, hz, rfl⟩ := List.mem_map.1 hp
    have := h.1 z (List.mem_filter.1 hz).1
    unfold pless
    exact decide_eq_true (by dsimp only; omega)
   ·rw [if_neg c]
    exact prO_sort x h.2
theorem pairs_sort : ∀ {L : List Bd}, Asc L → SortS pless (pairsL L)
 | [], _ => List.Pairwise.nil
 | a :: l, h => by
   show List.Pairwise _ (prO a l ++ pairsL l)
   rw [List.pairwise_append]
   refine ⟨prO_sort a h.2, pairs_sort h.2, fun p hp q hq => ?_⟩
   unfold prO at hp
   obtain ⟨y, _, rfl⟩ := List.mem_map.1 hp
   obtain ⟨u, hu, v, _, _, _, rfl⟩ := (pairs_mem h.2 q).1 hq
   have := h.1 u hu
   unfold pless
   exact decide_eq_true (by dsimp only; omega)
theorem ext_B {x : Bd} (h : chkB x = 0) : (4096 ≤ exB x ∧ exB x ≤ 8388608) ∧ (4096 ≤ eyB x ∧ eyB x ≤ 8388608) ∧ (-1073741824 ≤ x.px ∧ x.px ≤ 1073741824) ∧ (-1073741824 ≤ x.py ∧ x.py ≤ 1073741824) := by
 obtain ⟨h1, ⟨h2, h3⟩, h4, h5⟩ := chk_lim h
 unfold exB eyB
 omega
def viwB (L : List Bd) : Bool := decide (L.length ≤ 40) && decide (sortE L = 0)
abbrev RVw (L : List Bd) : Prop := ∀ v w, Lst w v L → Calls Tryz.prog 8 #[v] w fun e w' => ∃ v', e = .returned (.tuple #[v', .bool (viwB L)]) ∧ (Lst w' v' (if L.length ≤ 40 then sortL L else []) ∧ New w v' w') ∧ Kep w.heap.size w w'
theorem rvw (L : List Bd) : RVw L := fun v w h => by
 obtain ⟨base, cap, rfl⟩ := h.shape
 have HL0 := Lib.hid h
 by_cases hl : L.length ≤ 40
 ·have FS := Lib.hid (fun w h => rsort_any (.slice base L.length cap) L w h (by omega))
  have hg : decide ((40 : Int) < (L.length : Int)) = false := decide_eq_false (by omega)
  obtain ⟨z, hz⟩ : ∃ z, decide (sortE L = 0) = z := ⟨_, rfl⟩
  have ez : (sortE L == 0) = z := by rw [← hz]; rfl
  have e1 : viwB L = z := by unfold viwB; rw [decide_eq_true hl, hz]; rfl
  rw [e1, if_pos hl]
  have HS : Hid (sortE L == 0) = Hid (sortE L == 0) := rfl
  clear hz e1 HS h
  generalize sortE L = se at *
  go_enter Tryz.func8, Tryz.ntmps8
  go_wp2_with (first
   | ((with_reducible refine (FS.out _ HL0.out).mono ?_); rintro e w1 ⟨v1, rfl, ⟨l1, n1⟩, g1⟩))
  go_ret2
  exact ⟨_, rfl, ⟨l1, n1⟩, g1⟩
 ·have hg : decide ((40 : Int) < (L.length : Int)) = true := decide_eq_true (by omega)
  have e1 : viwB L = false := by unfold viwB; rw [decide_eq_false hl]; rfl
  rw [e1, if_neg hl]
  clear h
  go_enter Tryz.func8, Tryz.ntmps8
  go_wp2_with fail
  go_ret2
  exact ⟨_, rfl, ⟨.inl ⟨rfl, none, 0, rfl⟩, new_nil _ _⟩, Kep.refl _ _⟩
structure Vw (L : List Bd) : Prop where
 asc : Asc L
 ok : ∀ x ∈ L, chkB x = 0
 key : ∀ x ∈ L, (Lit.int .u32 x.k).wf = true
 len : L.length ≤ 40
theorem vw_of {L : List Bd} (h : viwB L = true) (f : ∀ x ∈ L, Fits x) : L.length ≤ 40 ∧ sortE L = 0 ∧ Vw (sortL L) := by
 unfold viwB at h
 rw [Bool.and_eq_true] at h
 have h1 := of_decide_eq_true h.1
 have h2 := of_decide_eq_true h.2
 have h3 := sortL_asc L
 refine ⟨h1, h2, h3.1, ?_, fun x hx => (sortL_fits f x hx).1, by have := h3.2; omega⟩
 exact (eachE_zero.1 (sorted_each h2)).2
abbrev PFind : Prop := ∀ v L w, Fac w → Lst w v L → Vw L → Calls Tryz.prog 50 #[v] w fun e w' => ∃ v' n, e = .returned (.tuple #[v', .int .i64 n]) ∧ (Sq pv 2 w' v' (pairsL L) ∧ ((pairsL L).length : Int) ≤ n ∧ 2 * n ≤ (L.length : Int) * ((L.length : Int) - 1)) ∧ Kep w.heap.size w w'
theorem vals_lenK (x : Bd) : (vals x).length = 10 := rfl
theorem vals_oneK (x : Bd) : ∀ u ∈ vals x, u.oneCell' = true := one_cell x
theorem lst_sqK {w : World} {v : Value} {L : List Bd} (h : Lst w v L) : Sq vals 10 w v L := by
 obtain ⟨base, cap, rfl⟩ := h.shape
 refine ⟨base, cap, rfl, fun k x hx => ?_⟩
 obtain ⟨g, off, rfl, q⟩ := h.at_ hx
 refine ⟨g, off, rfl, fun i u hu => ?_⟩
 have hi : i < 10 := by have := (List.getElem?_eq_some_iff.1 hu).1; exact this
 rw [q i hi]
 exact hu
end Go.Proofs.YtaknmlohnifcdaaGreatDoor
