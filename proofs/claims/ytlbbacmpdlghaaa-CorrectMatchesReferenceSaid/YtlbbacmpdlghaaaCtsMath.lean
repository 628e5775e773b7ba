/-
  Package contacts: the contacts of a view as a list (no program).
-/
import Derived.Test.YtlbbacmpdlghaaaJ04PointRef
import Derived.Test.YtlbbacmpdlghaaaJ07ViewMath
namespace Go.Proofs.Ytlbbacmpdlghaaa
open Go.RowKit Go.Lib

/-- The contacts of one body with those behind it. -/
def conO (x : Bd) (l : List Bd) : List Ct := (l.filter (tchB x)).map (conC x)
def consL : List Bd → List Ct
  | [] => []
  | x :: l => conO x l ++ consL l
/-- Contacts by their pairs. -/
def cless (p q : Ct) : Bool := decide (p.lo < q.lo ∨ (p.lo = q.lo ∧ p.hi < q.hi))
def ctv (c : Ct) : List Value := [.int .u32 c.lo, .int .u32 c.hi, .int .i32 c.nx, .int .i32 c.ny, .int .i32 c.dp]
theorem ctv_len (c : Ct) : (ctv c).length = 5 := rfl
theorem ctv_one (c : Ct) : ∀ u ∈ ctv c, u.oneCell' = true := by
  intro u hu
  simp only [ctv, List.mem_cons, List.not_mem_nil, or_false] at hu
  rcases hu with rfl | rfl | rfl | rfl | rfl <;> rfl
/-- The contacts with a key, and those without. -/
def withC (L : List Ct) (key : Int) : List Ct := L.filter fun c => decide (c.lo = key ∨ c.hi = key)
theorem conO_cons (x y : Bd) (l : List Bd) : conO x (y :: l) = if tchB x y = true then conC x y :: conO x l else conO x l := by
  unfold conO
  by_cases c : tchB x y = true
  · rw [if_pos c, List.filter_cons_of_pos c, List.map_cons]
  · rw [if_neg c, List.filter_cons_of_neg c]
theorem conO_at {L : List Bd} {k : Nat} {x y : Bd} (h : L[k]? = some y) : conO x (L.drop k) = if tchB x y = true then conC x y :: conO x (L.drop (k + 1)) else conO x (L.drop (k + 1)) := by
  rw [drop_at h, conO_cons]
theorem cons_at {L : List Bd} {i : Nat} {x : Bd} (h : L[i]? = some x) : consL (L.drop i) = conO x (L.drop (i + 1)) ++ consL (L.drop (i + 1)) := by
  rw [drop_at h]
  rfl
theorem conO_len (x : Bd) (l : List Bd) : (conO x l).length ≤ l.length := by
  unfold conO
  rw [List.length_map]
  exact List.length_filter_le _ _
theorem cons_len : ∀ (L : List Bd), 2 * (consL L).length ≤ L.length * (L.length - 1)
  | [] => by simp [consL]
  | x :: l => by
    have h1 := cons_len l
    have h2 := conO_len x l
    have e : (consL (x :: l)).length = (conO x l).length + (consL l).length := by simp [consL]
    rw [e, List.length_cons, Nat.add_sub_cancel]
    generalize (conO x l).length = a at *
    generalize (consL l).length = b at *
    generalize l.length = n at *
    cases n with
    | zero => simp at h1 h2 ⊢; omega
    | succ n =>
      rw [Nat.add_sub_cancel] at h1
      have e2 : (n + 1 + 1) * (n + 1) = (n + 1) * n + 2 * (n + 1) := by
        rw [Nat.mul_comm (n + 1 + 1), ← Nat.mul_comm (n + 1) 2, ← Nat.mul_add]
      omega
theorem cons_max {L : List Bd} (h : L.length ≤ 40) : (consL L).length ≤ 780 := by
  have h1 := cons_len L
  have h2 := Nat.mul_le_mul h (show L.length - 1 ≤ 39 by omega)
  omega
theorem cons_mem : ∀ {L : List Bd}, Asc L → ∀ c : Ct, c ∈ consL L ↔ ∃ x ∈ L, ∃ y ∈ L, x.k < y.k ∧ tchB x y = true ∧ c = conC x y
  | [], _, p => by simp [consL]
  | a :: l, h, p => by
    simp only [consL, List.mem_append, cons_mem h.2]
    constructor
    · rintro (hp | ⟨x, hx, y, hy, h1, h2, rfl⟩)
      · unfold conO at hp
        obtain ⟨y, hy, rfl⟩ := List.mem_map.1 hp
        rw [List.mem_filter] at hy
        exact ⟨a, by simp, y, by simp [hy.1], h.1 y hy.1, hy.2, rfl⟩
      · exact ⟨x, by simp [hx], y, by simp [hy], h1, h2, rfl⟩
    · rintro ⟨x, hx, y, hy, h1, h2, rfl⟩
      rcases List.mem_cons.1 hx with e | hx2
      · rcases List.mem_cons.1 hy with e2 | hy2
        · rw [e, e2] at h1; omega
        · rw [e] at h2 ⊢
          exact .inl (by unfold conO; exact List.mem_map.2 ⟨y, List.mem_filter.2 ⟨hy2, h2⟩, rfl⟩)
      · rcases List.mem_cons.1 hy with e2 | hy2
        · have := h.1 x hx2; rw [e2] at h1; omega
        · exact .inr ⟨x, hx2, y, hy2, h1, h2, rfl⟩
theorem conO_sort (x : Bd) : ∀ {l : List Bd}, Asc l → (conO x l).Pairwise fun p q => cless p q = true
  | [], _ => List.Pairwise.nil
  | y :: l, h => by
    rw [conO_cons]
    by_cases c : tchB x y = true
    · rw [if_pos c]
      refine List.Pairwise.cons (fun p hp => ?_) (conO_sort x h.2)
      unfold conO at hp
      obtain ⟨z, hz, rfl⟩ := List.mem_map.1 hp
      have := h.1 z (List.mem_filter.1 hz).1
      unfold cless conC
      exact decide_eq_true (by dsimp only; omega)
    · rw [if_neg c]
      exact conO_sort x h.2
theorem cons_sort : ∀ {L : List Bd}, Asc L → (consL L).Pairwise fun p q => cless p q = true
  | [], _ => List.Pairwise.nil
  | a :: l, h => by
    show List.Pairwise _ (conO a l ++ consL l)
    rw [List.pairwise_append]
    refine ⟨conO_sort a h.2, cons_sort h.2, fun p hp q hq => ?_⟩
    unfold conO at hp
    obtain ⟨y, _, rfl⟩ := List.mem_map.1 hp
    obtain ⟨u, hu, v, _, _, _, rfl⟩ := (cons_mem h.2 q).1 hq
    have := h.1 u hu
    unfold cless conC
    exact decide_eq_true (by dsimp only; omega)
/-- Without a body: the contacts in which it does not occur. -/
theorem conO_gone (a : Bd) (key : Int) (ha : a.k ≠ key) : ∀ l : List Bd, conO a (l.filter fun y => decide (y.k ≠ key)) = (conO a l).filter fun c => decide (c.lo ≠ key ∧ c.hi ≠ key)
  | [] => rfl
  | y :: l => by
    have ih := conO_gone a key ha l
    by_cases c : y.k = key
    · rw [List.filter_cons_of_neg (by simp [c]), ih, conO_cons]
      by_cases t : tchB a y = true
      · rw [if_pos t, List.filter_cons_of_neg]
        intro q
        exact (of_decide_eq_true q).2 c
      · rw [if_neg t]
    · rw [List.filter_cons_of_pos (p := fun y : Bd => decide (y.k ≠ key)) (decide_eq_true c), conO_cons, conO_cons, ih]
      by_cases t : tchB a y = true
      · rw [if_pos t, if_pos t, List.filter_cons_of_pos]
        exact decide_eq_true ⟨ha, c⟩
      · rw [if_neg t, if_neg t]
theorem conO_all (a : Bd) (l : List Bd) : (conO a l).filter (fun c => decide (c.lo ≠ a.k ∧ c.hi ≠ a.k)) = [] := by
  rw [List.filter_eq_nil_iff]
  intro c hc q
  unfold conO at hc
  obtain ⟨y, _, rfl⟩ := List.mem_map.1 hc
  exact (of_decide_eq_true q).1 rfl
theorem cons_drop (key : Int) : ∀ L : List Bd, consL (L.filter fun y => decide (y.k ≠ key)) = (consL L).filter fun c => decide (c.lo ≠ key ∧ c.hi ≠ key)
  | [] => rfl
  | a :: l => by
    show _ = (conO a l ++ consL l).filter _
    rw [List.filter_append, ← cons_drop key l]
    by_cases c : a.k = key
    · subst c
      rw [List.filter_cons_of_neg (by simp), conO_all, List.nil_append]
    · rw [List.filter_cons_of_pos (p := fun y : Bd => decide (y.k ≠ key)) (decide_eq_true c)]
      show conO a _ ++ consL _ = _
      rw [conO_gone a key c]
theorem cons_gone {L : List Bd} (h : Asc L) {k : Nat} {x : Bd} (hx : L[k]? = some x) : consL (L.take k ++ L.drop (k + 1)) = (consL L).filter fun c => decide (c.lo ≠ x.k ∧ c.hi ≠ x.k) := by
  rw [gone_at h hx]
  exact cons_drop x.k L
/-- The contacts with a key and those without are all. -/
theorem with_rest (L : List Ct) (key : Int) : (withC L key).length + (L.filter fun c => decide (c.lo ≠ key ∧ c.hi ≠ key)).length = L.length := by
  unfold withC
  induction L with
  | nil => rfl
  | cons c l ih =>
    by_cases q : c.lo = key ∨ c.hi = key
    · rw [List.filter_cons_of_pos (p := fun c : Ct => decide (c.lo = key ∨ c.hi = key)) (decide_eq_true q), List.filter_cons_of_neg (p := fun c : Ct => decide (c.lo ≠ key ∧ c.hi ≠ key)) (by intro z; have := of_decide_eq_true z; omega), List.length_cons, List.length_cons]
      omega
    · rw [List.filter_cons_of_neg (p := fun c : Ct => decide (c.lo = key ∨ c.hi = key)) (by intro z; exact q (of_decide_eq_true z)), List.filter_cons_of_pos (p := fun c : Ct => decide (c.lo ≠ key ∧ c.hi ≠ key)) (decide_eq_true (by omega)), List.length_cons, List.length_cons]
      omega
theorem tch_mv (dx dy : Int) (x y : Bd) : tchB (mvB dx dy x) (mvB dx dy y) = tchB x y ∧ (tchB x y = true → conC (mvB dx dy x) (mvB dx dy y) = conC x y) := by
  have h := con_mv (x := x) (y := y) (x' := mvB dx dy x) (y' := mvB dx dy y) (v := dx) (u := dy) ⟨rfl, rfl, rfl, rfl⟩ ⟨rfl, rfl, rfl, rfl⟩ rfl rfl rfl rfl
  refine ⟨h.1, fun t => ?_⟩
  have e := h.2.1
  unfold conV at e
  rw [if_pos t, if_pos (h.1.trans t)] at e
  exact e
theorem conO_mv (dx dy : Int) (x : Bd) : ∀ l : List Bd, conO (mvB dx dy x) (l.map (mvB dx dy)) = conO x l
  | [] => rfl
  | y :: l => by
    rw [List.map_cons, conO_cons, conO_cons, (tch_mv dx dy x y).1, conO_mv dx dy x l]
    by_cases t : tchB x y = true
    · rw [if_pos t, if_pos t, (tch_mv dx dy x y).2 t]
    · rw [if_neg t, if_neg t]
theorem cons_mv (dx dy : Int) : ∀ L : List Bd, consL (L.map (mvB dx dy)) = consL L
  | [] => rfl
  | x :: l => by
    show conO (mvB dx dy x) (l.map (mvB dx dy)) ++ consL (l.map (mvB dx dy)) = _
    rw [conO_mv, cons_mv dx dy l]
    rfl
/-- Bodies that touch are among the pairs. -/
theorem tch_ov {x y : Bd} (hx : okC x) (hy : okC y) (h : tchB x y = true) : ovP x y = true := by
  have b := tch_box hx hy h
  have l1 := okC_lim hx
  have l2 := okC_lim hy
  unfold exC eyC at b
  unfold ovP ovA ovlB exB eyB
  exact decide_eq_true (by omega)
/-- Filtering the pairs by touch gives the contacts. -/
theorem conO_pr {x : Bd} (hx : okC x) : ∀ {l : List Bd}, (∀ y ∈ l, okC y) → conO x l = ((l.filter (ovP x)).filter (tchB x)).map (conC x)
  | [], _ => rfl
  | y :: l, h => by
    have ih := conO_pr hx (l := l) (fun z hz => h z (by simp [hz]))
    rw [conO_cons, ih]
    by_cases t : tchB x y = true
    · have o := tch_ov hx (h y (by simp)) t
      rw [if_pos t, List.filter_cons_of_pos o, List.filter_cons_of_pos t, List.map_cons]
    · rw [if_neg t]
      by_cases o : ovP x y = true
      · rw [List.filter_cons_of_pos o, List.filter_cons_of_neg t]
      · rw [List.filter_cons_of_neg o]
/-- The first of the greatest depth. -/
def dpk (b x : Ct) : Ct := if b.dp < x.dp then x else b
def deepC : List Ct → Ct
  | [] => ⟨0, 0, 0, 0, 0⟩
  | c :: l => (c :: l).foldl dpk c
theorem dpk_self (c : Ct) : dpk c c = c := by
  unfold dpk
  rw [if_neg (by omega)]
theorem fold_at {L : List Ct} {k : Nat} {x c : Ct} (h : L[k]? = some x) : (L.take (k + 1)).foldl dpk c = dpk ((L.take k).foldl dpk c) x := by
  rw [List.take_add_one, h]
  simp
theorem deep_eq {L : List Ct} {c : Ct} (h : L[0]? = some c) : deepC L = L.foldl dpk c := by
  cases L with
  | nil => simp at h
  | cons a l =>
    simp at h
    subst h
    rfl
theorem fold_spl : ∀ (l : List Ct) (c : Ct), ∃ A B, c :: l = A ++ l.foldl dpk c :: B ∧ (∀ y ∈ A, y.dp < (l.foldl dpk c).dp) ∧ ∀ y ∈ B, y.dp ≤ (l.foldl dpk c).dp
  | [], c => ⟨[], [], rfl, fun y h => by simp at h, fun y h => by simp at h⟩
  | x :: l, c => by
    rw [List.foldl_cons]
    by_cases q : c.dp < x.dp
    · have e : dpk c x = x := by unfold dpk; rw [if_pos q]
      rw [e]
      obtain ⟨A, B, h1, h2, h3⟩ := fold_spl l x
      refine ⟨c :: A, B, by rw [h1]; rfl, fun y hy => ?_, h3⟩
      rcases List.mem_cons.1 hy with rfl | hy
      · have hx : x ∈ A ++ l.foldl dpk x :: B := by rw [← h1]; simp
        rcases List.mem_append.1 hx with m | m
        · have := h2 x m; omega
        · rcases List.mem_cons.1 m with m | m
          · rw [← m]; exact q
          · have := h3 x m; omega
      · exact h2 y hy
    · have e : dpk c x = c := by unfold dpk; rw [if_neg q]
      rw [e]
      obtain ⟨A, B, h1, h2, h3⟩ := fold_spl l c
      cases A with
      | nil =>
        simp only [List.nil_append, List.cons.injEq] at h1
        refine ⟨[], x :: B, by rw [← h1.1, ← h1.2]; rfl, fun y hy => by simp at hy, fun y hy => ?_⟩
        rcases List.mem_cons.1 hy with rfl | hy
        · rw [← h1.1]; omega
        · exact h3 y hy
      | cons a A =>
        simp only [List.cons_append, List.cons.injEq] at h1
        obtain ⟨rfl, h1⟩ := h1
        have hc := h2 c (by simp)
        refine ⟨c :: x :: A, B, congrArg (fun z => c :: x :: z) h1, fun y hy => ?_, h3⟩
        rcases List.mem_cons.1 hy with rfl | hy
        · exact hc
        · rcases List.mem_cons.1 hy with rfl | hy
          · omega
          · exact h2 y (by simp [hy])
theorem deep_spl {L : List Ct} (h : L ≠ []) : ∃ A B, L = A ++ deepC L :: B ∧ (∀ y ∈ A, y.dp < (deepC L).dp) ∧ ∀ y ∈ B, y.dp ≤ (deepC L).dp := by
  cases L with
  | nil => exact absurd rfl h
  | cons c l =>
    have e : deepC (c :: l) = l.foldl dpk c := by
      show (c :: l).foldl dpk c = _
      rw [List.foldl_cons, dpk_self]
    rw [e]
    exact fold_spl l c
theorem deep_max {L : List Ct} {x : Ct} (hx : x ∈ L) : x.dp ≤ (deepC L).dp := by
  obtain ⟨A, B, h1, h2, h3⟩ := deep_spl (L := L) (fun e => by rw [e] at hx; simp at hx)
  rw [h1] at hx
  rcases List.mem_append.1 hx with m | m
  · have := h2 x m; omega
  · rcases List.mem_cons.1 m with m | m
    · rw [← m]; omega
    · exact h3 x m
theorem deep_mem {L : List Ct} (h : L ≠ []) : deepC L ∈ L := by
  obtain ⟨A, B, h1, _, _⟩ := deep_spl h
  have : deepC L ∈ A ++ deepC L :: B := by simp
  rw [← h1] at this
  exact this
theorem deep_first {L : List Ct} {k : Nat} {x : Ct} (hx : L[k]? = some x) (he : x.dp = (deepC L).dp) (hn : deepC L ∉ L.take k) : x = deepC L := by
  have h0 : L ≠ [] := fun e => by rw [e] at hx; simp at hx
  obtain ⟨A, B, h1, h2, _⟩ := deep_spl h0
  generalize deepC L = d at *
  subst h1
  rcases Nat.lt_trichotomy k A.length with c | c | c
  · rw [List.getElem?_append_left c] at hx
    have := h2 x (List.mem_of_getElem? hx)
    omega
  · subst c
    rw [List.getElem?_append_right (Nat.le_refl _), Nat.sub_self] at hx
    simp at hx
    exact hx.symm
  · exfalso
    apply hn
    rw [List.take_append, List.take_of_length_le (by omega)]
    obtain ⟨j, hj⟩ : ∃ j, k - A.length = j + 1 := ⟨k - A.length - 1, by omega⟩
    rw [hj, List.take_succ_cons]
    simp
end Go.Proofs.Ytlbbacmpdlghaaa
