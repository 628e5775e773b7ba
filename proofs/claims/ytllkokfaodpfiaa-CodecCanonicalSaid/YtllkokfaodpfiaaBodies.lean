/-
  Bodies as a list in ascending order of their keys: looking a key up, putting a body in, taking one out. Plain mathematics, of no program.
-/

namespace Go.Proofs.Ytllkokfaodpfiaa

/-- A body: its ten numbers. -/
structure Bd where
  k : Int
  r : Int
  ax : Int
  ay : Int
  m : Int
  o : Int
  px : Int
  py : Int
  vx : Int
  vy : Int

/-- The first body with a key. -/
def look : List Bd → Int → Option Bd
  | [], _ => none
  | x :: l, key => if x.k = key then some x else look l key
/-- Its place, or -1. -/
def place : List Bd → Int → Nat → Int
  | [], _, _ => -1
  | x :: l, key, i => if x.k = key then i else place l key (i + 1)
/-- Ascending order of keys, each once. -/
def Asc : List Bd → Prop
  | [] => True
  | x :: l => (∀ y ∈ l, x.k < y.k) ∧ Asc l
/-- No key twice. -/
def Once : List Bd → Prop
  | [] => True
  | x :: l => (∀ y ∈ l, y.k ≠ x.k) ∧ Once l

theorem Asc.once : ∀ {l : List Bd}, Asc l → Once l
  | [], _ => trivial
  | _ :: _, ⟨h, t⟩ => ⟨fun y hy => by have := h y hy; omega, t.once⟩
theorem look_none : ∀ {l : List Bd} {key : Int}, look l key = none ↔ ∀ y ∈ l, y.k ≠ key
  | [], _ => by simp [look]
  | x :: l, key => by
    unfold look
    by_cases h : x.k = key
    · rw [if_pos h]; simp [h]
    · rw [if_neg h, look_none]; simp [h]
theorem look_some : ∀ {l : List Bd} {key : Int} {b : Bd}, look l key = some b → b ∈ l ∧ b.k = key
  | [], _, _, h => by cases h
  | x :: l, key, b, h => by
    unfold look at h
    by_cases c : x.k = key
    · rw [if_pos c] at h; cases h; exact ⟨by simp, c⟩
    · rw [if_neg c] at h; have := look_some h; exact ⟨by simp [this.1], this.2⟩
theorem look_mem : ∀ {l : List Bd}, Once l → ∀ {b : Bd}, b ∈ l → look l b.k = some b
  | [], _, _, h => by cases h
  | x :: l, ⟨h1, h2⟩, b, h => by
    unfold look
    rcases List.mem_cons.1 h with rfl | h
    · rw [if_pos rfl]
    · rw [if_neg (fun e => h1 b h e.symm)]; exact look_mem h2 h
/-- Two lists in order that answer alike are one. -/
theorem asc_ext : ∀ {a b : List Bd}, Asc a → Asc b → (∀ key, look a key = look b key) → a = b
  | [], [], _, _, _ => rfl
  | [], y :: b, _, _, h => by have := h y.k; simp [look] at this
  | x :: a, [], _, _, h => by have := h x.k; simp [look] at this
  | x :: a, y :: b, ⟨ha, ha'⟩, ⟨hb, hb'⟩, h => by
    have e : x = y := by
      have h1 := h x.k
      have h2 := h y.k
      have m1 : x ∈ y :: b := (look_some (h1.symm.trans (look_mem (Asc.once (l := x :: a) ⟨ha, ha'⟩) (by simp)))).1
      have m2 : y ∈ x :: a := (look_some (h2.trans (look_mem (Asc.once (l := y :: b) ⟨hb, hb'⟩) (by simp)))).1
      rcases List.mem_cons.1 m1 with e | m1
      · exact e
      · rcases List.mem_cons.1 m2 with e | m2
        · exact e.symm
        · have := ha y m2; have := hb x m1; omega
    subst e
    rw [asc_ext ha' hb' (fun key => ?_)]
    have h0 := h key
    unfold look at h0
    by_cases c : x.k = key
    · have n1 : look a key = none := look_none.2 fun y hy => by have := ha y hy; omega
      have n2 : look b key = none := look_none.2 fun y hy => by have := hb y hy; omega
      rw [n1, n2]
    · rw [if_neg c, if_neg c] at h0; exact h0
/-- An order of the list does not matter to what it answers, where no key stands twice. -/
theorem look_perm {a b : List Bd} (_ha : Once a) (hb : Once b) (h : ∀ x, x ∈ a ↔ x ∈ b) (key : Int) : look a key = look b key := by
  cases e : look a key with
  | none => exact (look_none.2 fun y hy => look_none.1 e y ((h y).2 hy)).symm
  | some x => obtain ⟨m, rfl⟩ := look_some e; exact (look_mem hb ((h x).1 m)).symm

/-- One round of putting a body in: what has been gathered, and whether it is in. -/
def putStep (b : Bd) (s : List Bd × Bool) (x : Bd) : List Bd × Bool :=
  let t : List Bd × Bool := if !s.2 && decide (b.k ≤ x.k) then (s.1 ++ [b], true) else s
  if x.k = b.k then t else (t.1 ++ [x], t.2)
def putTo (b : Bd) (gone : Bool) (l : List Bd) : List Bd × Bool := l.foldl (putStep b) ([], gone)
/-- The list with b in the place of its key; without it, if gone. -/
def put (l : List Bd) (b : Bd) (gone : Bool) : List Bd := if (putTo b gone l).2 then (putTo b gone l).1 else (putTo b gone l).1 ++ [b]
theorem putTo_snoc (b : Bd) (gone : Bool) (l : List Bd) (x : Bd) : putTo b gone (l ++ [x]) = putStep b (putTo b gone l) x := by simp [putTo]
def one (d : Bool) : Nat := bif d then 1 else 0
theorem putTo_len (b : Bd) (gone : Bool) (l : List Bd) : (putTo b gone l).1.length ≤ l.length + 1 := by
  have h : ∀ (l : List Bd) (s : List Bd × Bool) (n : Nat), s.1.length ≤ n + one s.2 → (l.foldl (putStep b) s).1.length ≤ n + l.length + one (l.foldl (putStep b) s).2 := by
    intro l
    induction l with
    | nil => intro s n h; exact h
    | cons x l ih =>
      intro s n h
      have := ih (putStep b s x) (n + 1) (by
        unfold putStep
        obtain ⟨a, d⟩ := s
        cases d
        · by_cases c : b.k ≤ x.k <;> by_cases e : x.k = b.k <;> simp [one, c, e] at h ⊢ <;> omega
        · by_cases e : x.k = b.k <;> simp [one, e] at h ⊢ <;> omega)
      simp only [List.foldl_cons, List.length_cons]
      omega
  have := h l ([], gone) 0 (by simp)
  have o : one (l.foldl (putStep b) ([], gone)).2 ≤ 1 := by unfold one; cases (l.foldl (putStep b) ([], gone)).2 <;> simp
  unfold putTo
  omega
/-- In terms of the ordered list: what lies below, b, what lies above. -/
theorem putTo_done (b : Bd) (gone : Bool) : ∀ (l : List Bd) (a : List Bd), (l.foldl (putStep b) (a, true)) = (a ++ l.filter (fun x => decide (x.k ≠ b.k)), true)
  | [], a => by simp
  | x :: l, a => by
    simp only [List.foldl_cons]
    by_cases e : x.k = b.k
    · have : putStep b (a, true) x = (a, true) := by simp [putStep, e]
      rw [this, putTo_done b gone l a]; simp [e]
    · have : putStep b (a, true) x = (a ++ [x], true) := by simp [putStep, e]
      rw [this, putTo_done b gone l (a ++ [x])]; simp [e]
theorem putTo_go (b : Bd) : ∀ (l : List Bd) (a : List Bd), Asc l → (l.foldl (putStep b) (a, false)) =
    if l.all (fun x => decide (x.k < b.k)) then (a ++ l, false) else (a ++ l.filter (fun x => decide (x.k < b.k)) ++ [b] ++ l.filter (fun x => decide (b.k < x.k)), true)
  | [], a, _ => by simp
  | x :: l, a, ⟨h1, h2⟩ => by
    simp only [List.foldl_cons]
    by_cases c : x.k < b.k
    · have : putStep b (a, false) x = (a ++ [x], false) := by
        have c1 : ¬ b.k ≤ x.k := by omega
        have c2 : ¬ x.k = b.k := by omega
        simp [putStep, c1, c2]
      rw [this, putTo_go b l (a ++ [x]) h2]
      have n : ¬ b.k < x.k := by omega
      by_cases q : l.all (fun x => decide (x.k < b.k)) = true <;> simp [c, q, n]
    · have f1 : l.filter (fun x => decide (x.k < b.k)) = [] := List.filter_eq_nil_iff.2 fun y hy => by have := h1 y hy; simp; omega
      have f2 : l.filter (fun x => decide (x.k ≠ b.k)) = l.filter (fun x => decide (b.k < x.k)) := List.filter_congr fun y hy => by have := h1 y hy; exact decide_eq_decide.2 (by omega)
      by_cases e : x.k = b.k
      · have : putStep b (a, false) x = (a ++ [b], true) := by simp [putStep, e]
        rw [this, putTo_done b false, f2]
        simp [e, f1]
      · have g : b.k < x.k := by omega
        have q : b.k ≤ x.k := by omega
        have : putStep b (a, false) x = (a ++ [b] ++ [x], true) := by simp [putStep, e, q]
        rw [this, putTo_done b false, f2]
        simp [c, g, f1]
theorem put_eq {l : List Bd} (h : Asc l) (b : Bd) : put l b false = l.filter (fun x => decide (x.k < b.k)) ++ [b] ++ l.filter (fun x => decide (b.k < x.k)) := by
  unfold put putTo
  rw [putTo_go b l [] h]
  by_cases q : l.all (fun x => decide (x.k < b.k)) = true
  · have q' : ∀ x ∈ l, x.k < b.k := by simpa using q
    have f1 : l.filter (fun x => decide (x.k < b.k)) = l := List.filter_eq_self.2 fun y hy => by simpa using q' y hy
    have f2 : l.filter (fun x => decide (b.k < x.k)) = [] := List.filter_eq_nil_iff.2 fun y hy => by have := q' y hy; simp; omega
    simp [q, f1, f2]
  · simp [q]
theorem put_gone (l : List Bd) (b : Bd) : put l b true = l.filter (fun x => decide (x.k ≠ b.k)) := by
  unfold put putTo
  rw [putTo_done b true l []]
  simp
theorem asc_filter (p : Bd → Bool) : ∀ {l : List Bd}, Asc l → Asc (l.filter p)
  | [], _ => trivial
  | x :: l, ⟨h1, h2⟩ => by
    rw [List.filter_cons]
    split
    · exact ⟨fun y hy => h1 y (List.mem_filter.1 hy).1, asc_filter p h2⟩
    · exact asc_filter p h2
theorem asc_append : ∀ {a b : List Bd}, Asc a → Asc b → (∀ x ∈ a, ∀ y ∈ b, x.k < y.k) → Asc (a ++ b)
  | [], _, _, hb, _ => hb
  | x :: a, b, ⟨h1, h2⟩, hb, h => ⟨fun y hy => by
      rcases List.mem_append.1 hy with hy | hy
      · exact h1 y hy
      · exact h x (by simp) y hy, asc_append h2 hb fun x' hx' => h x' (by simp [hx'])⟩
theorem put_asc {l : List Bd} (h : Asc l) (b : Bd) (gone : Bool) : Asc (put l b gone) := by
  cases gone
  · rw [put_eq h]
    refine asc_append (asc_append (asc_filter _ h) (by simp [Asc]) ?_) (asc_filter _ h) ?_
    · intro x hx y hy; simp at hx hy; subst hy; exact hx.2
    · intro x hx y hy
      simp at hx hy
      rcases hx with hx | rfl
      · have := hx.2; have := hy.2; omega
      · exact hy.2
  · rw [put_gone]; exact asc_filter _ h
theorem mem_put {l : List Bd} (h : Asc l) (b x : Bd) : x ∈ put l b false ↔ x = b ∨ (x ∈ l ∧ x.k ≠ b.k) := by
  rw [put_eq h]
  simp only [List.mem_append, List.mem_filter, List.mem_singleton, decide_eq_true_eq]
  constructor
  · rintro ((⟨m, c⟩ | rfl) | ⟨m, c⟩)
    · exact .inr ⟨m, by omega⟩
    · exact .inl rfl
    · exact .inr ⟨m, by omega⟩
  · rintro (rfl | ⟨m, c⟩)
    · exact .inl (.inr rfl)
    · rcases Int.lt_or_gt_of_ne c with c | c
      · exact .inl (.inl ⟨m, c⟩)
      · exact .inr ⟨m, c⟩
theorem mem_gone {l : List Bd} (b x : Bd) : x ∈ put l b true ↔ x ∈ l ∧ x.k ≠ b.k := by rw [put_gone]; simp
theorem look_put {l : List Bd} (h : Asc l) (b : Bd) (key : Int) : look (put l b false) key = if b.k = key then some b else look l key := by
  by_cases c : b.k = key
  · rw [if_pos c, ← c]; exact look_mem (put_asc h b false).once ((mem_put h b b).2 (.inl rfl))
  · rw [if_neg c]
    cases e : look l key with
    | none =>
      refine look_none.2 fun y hy => ?_
      rcases (mem_put h b y).1 hy with rfl | ⟨m, _⟩
      · exact c
      · exact look_none.1 e y m
    | some x => obtain ⟨m, rfl⟩ := look_some e; exact look_mem (put_asc h b false).once ((mem_put h b x).2 (.inr ⟨m, fun q => c q.symm⟩))
theorem look_gone {l : List Bd} (h : Asc l) (b : Bd) (key : Int) : look (put l b true) key = if b.k = key then none else look l key := by
  by_cases c : b.k = key
  · rw [if_pos c, ← c]; exact look_none.2 fun y hy => ((mem_gone b y).1 hy).2
  · rw [if_neg c]
    cases e : look l key with
    | none => exact look_none.2 fun y hy => look_none.1 e y ((mem_gone b y).1 hy).1
    | some x => obtain ⟨m, rfl⟩ := look_some e; exact look_mem (put_asc h b true).once ((mem_gone b x).2 ⟨m, fun q => c q.symm⟩)
theorem put_len {l : List Bd} (h : Asc l) (b : Bd) : (look l b.k = none → (put l b false).length = l.length + 1) ∧ (put l b false).length ≤ l.length + 1 := by
  have e := put_eq h b
  have key : ∀ l : List Bd, l.length = (l.filter (fun x => decide (x.k < b.k))).length + (l.filter (fun x => decide (x.k = b.k))).length + (l.filter (fun x => decide (b.k < x.k))).length := by
    intro l
    induction l with
    | nil => rfl
    | cons x l ih =>
      rcases Int.lt_trichotomy x.k b.k with c | c | c
      · have c1 : ¬ x.k = b.k := by omega
        have c2 : ¬ b.k < x.k := by omega
        simp [c, c1, c2]; omega
      · simp [c]; omega
      · have c1 : ¬ x.k = b.k := by omega
        have c2 : ¬ x.k < b.k := by omega
        simp [c, c1, c2]; omega
  have kl := key l
  refine ⟨fun hn => ?_, by rw [e]; simp; omega⟩
  have : l.filter (fun x => decide (x.k = b.k)) = [] := List.filter_eq_nil_iff.2 fun y hy => by simpa using look_none.1 hn y hy
  rw [e]
  rw [this] at kl
  simp at kl ⊢
  omega
theorem place_eq : ∀ (l : List Bd) (key : Int) (i : Nat), (look l key = none → place l key i = -1) ∧ (∀ b, look l key = some b → ∃ j, place l key i = ((i + j : Nat) : Int) ∧ l[j]? = some b)
  | [], _, _ => ⟨fun _ => rfl, fun _ h => by cases h⟩
  | x :: l, key, i => by
    unfold look place
    by_cases c : x.k = key
    · rw [if_pos c, if_pos c]
      refine ⟨fun h => by (cases h), fun b h => ⟨0, by simp, by cases h; simp⟩⟩
    · rw [if_neg c, if_neg c]
      have := place_eq l key (i + 1)
      refine ⟨this.1, fun b h => ?_⟩
      obtain ⟨j, hj, hb⟩ := this.2 b h
      exact ⟨j + 1, by rw [hj]; congr 1; omega, by simpa using hb⟩
end Go.Proofs.Ytllkokfaodpfiaa
