import Derived.Test.YtaknmlohnifcdaaGreatDoorJ00Bits
import Derived.Test.YtaknmlohnifcdaaGreatDoorJ02Seq
import Derived.Deep.DeepCutAuto
import Derived.Deep.QuietTactic
import Derived.BigQuiet
import Derived.StillTailTactics

/-! J05SortMath: SortMath, CellMath, CellRef, CellAll, GridMath, GridRef1, GridRef2, BoxRef2. -/

section
/-
  Lists without duplicates in ascending order: an element put in its place; such a list is given by its members (no program).
-/
namespace Go.Proofs.YtaknmlohnifcdaaGreatDoor

/-- A strict order, as a test. -/
structure Strict {α : Type} (lt : α → α → Bool) : Prop where
  irr : ∀ a, lt a a = false
  trans : ∀ {a b c}, lt a b = true → lt b c = true → lt a c = true
  tri : ∀ a b, lt a b = false → lt b a = false → a = b
def SortS {α : Type} (lt : α → α → Bool) (l : List α) : Prop := l.Pairwise fun a b => lt a b = true
def dropOne {α : Type} [DecidableEq α] (p : α) : List α → List α
  | [] => []
  | x :: r => if x = p then r else x :: r
/-- p put into l at its place, unless it is there. -/
def putS {α : Type} [DecidableEq α] (lt : α → α → Bool) (l : List α) (p : α) : List α := l.takeWhile (fun x => lt x p) ++ p :: dropOne p (l.dropWhile fun x => lt x p)
section
variable {α : Type} [DecidableEq α] {lt : α → α → Bool}
theorem putS_nil (p : α) : putS lt [] p = [p] := rfl
theorem putS_cons (x : α) (l : List α) (p : α) : putS lt (x :: l) p = if lt x p = true then x :: putS lt l p else p :: dropOne p (x :: l) := by
  unfold putS
  by_cases h : lt x p = true
  · rw [if_pos h, List.takeWhile_cons_of_pos (by simpa using h), List.dropWhile_cons_of_pos (by simpa using h)]; rfl
  · rw [if_neg h, List.takeWhile_cons_of_neg (by simpa using h), List.dropWhile_cons_of_neg (by simpa using h)]; rfl
theorem dropOne_cons (p x : α) (r : List α) : dropOne p (x :: r) = if x = p then r else x :: r := rfl
theorem dropOne_sub (p : α) (l : List α) : (dropOne p l).Sublist l := by
  cases l with
  | nil => exact List.Sublist.refl _
  | cons x r =>
    rw [dropOne_cons]
    split
    · exact List.sublist_cons_self _ _
    · exact List.Sublist.refl _
theorem SortS.lt_all (H : Strict lt) {x p : α} {l : List α} (h : SortS lt (x :: l)) (hx : lt x p = false) : ∀ y ∈ dropOne p (x :: l), lt p y = true := by
  have h1 := List.pairwise_cons.1 h
  intro y hy
  rw [dropOne_cons] at hy
  split at hy
  · rename_i e
    subst e
    exact h1.1 y hy
  · rename_i e
    have hp : lt p x = true := by
      cases q : lt p x
      · exact absurd (H.tri _ _ hx q) e
      · rfl
    rcases List.mem_cons.1 hy with rfl | hy
    · exact hp
    · exact H.trans hp (h1.1 y hy)
theorem putS_mem (H : Strict lt) : ∀ {l : List α} {p x : α}, SortS lt l → (x ∈ putS lt l p ↔ x = p ∨ x ∈ l)
  | [], p, x, _ => by simp [putS_nil]
  | y :: l, p, x, h => by
    have h1 := List.pairwise_cons.1 h
    rw [putS_cons]
    split
    · rw [List.mem_cons, putS_mem H h1.2, List.mem_cons]
      constructor
      · rintro (a | a | a)
        · exact .inr (.inl a)
        · exact .inl a
        · exact .inr (.inr a)
      · rintro (a | a | a)
        · exact .inr (.inl a)
        · exact .inl a
        · exact .inr (.inr a)
    · rw [dropOne_cons]
      split
      · rename_i e
        subst e
        simp
      · simp
theorem putS_sort (H : Strict lt) : ∀ {l : List α} {p : α}, SortS lt l → SortS lt (putS lt l p)
  | [], p, _ => by rw [putS_nil]; exact List.pairwise_singleton _ _
  | y :: l, p, h => by
    have h1 := List.pairwise_cons.1 h
    rw [putS_cons]
    split
    · rename_i hy
      refine List.pairwise_cons.2 ⟨fun z hz => ?_, putS_sort H h1.2⟩
      rcases (putS_mem H h1.2).1 hz with rfl | hz
      · exact hy
      · exact h1.1 z hz
    · rename_i hy
      exact List.pairwise_cons.2 ⟨SortS.lt_all H h (by simpa using hy), List.Pairwise.sublist (dropOne_sub _ _) h⟩
omit [DecidableEq α] in
theorem SortS.ext (H : Strict lt) : ∀ {a b : List α}, SortS lt a → SortS lt b → (∀ x, x ∈ a ↔ x ∈ b) → a = b
  | [], [], _, _, _ => rfl
  | [], y :: b, _, _, h => absurd ((h y).2 (by simp)) (by simp)
  | x :: a, [], _, _, h => absurd ((h x).1 (by simp)) (by simp)
  | x :: a, y :: b, ha, hb, h => by
    have a1 := List.pairwise_cons.1 ha
    have b1 := List.pairwise_cons.1 hb
    have no : ∀ u v : α, lt u v = true → lt v u = true → False := fun u v h1 h2 => by
      have := H.trans h1 h2
      rw [H.irr] at this
      cases this
    have e : x = y := by
      rcases List.mem_cons.1 ((h x).1 (by simp)) with e | e
      · exact e
      · rcases List.mem_cons.1 ((h y).2 (by simp)) with q | q
        · exact q.symm
        · exact (no x y (a1.1 y q) (b1.1 x e)).elim
    subst e
    rw [SortS.ext H a1.2 b1.2 fun z => ?_]
    have hz := h z
    rw [List.mem_cons, List.mem_cons] at hz
    have out : ∀ {l : List α}, (∀ z ∈ l, lt x z = true) → z ∈ l → z ≠ x := fun hl hm e => by
      have := hl z hm
      rw [e, H.irr] at this
      cases this
    constructor
    · intro hm
      rcases hz.1 (.inr hm) with q | q
      · exact absurd q (out a1.1 hm)
      · exact q
    · intro hm
      rcases hz.2 (.inr hm) with q | q
      · exact absurd q (out b1.1 hm)
      · exact q
/-- All elements of a list that pass a test, put one after another. -/
theorem fold_put (H : Strict lt) {β : Type} (f : β → α) (t : β → Bool) : ∀ (L : List β) (acc : List α), SortS lt acc →
    SortS lt (L.foldl (fun acc y => if t y = true then putS lt acc (f y) else acc) acc) ∧ ∀ x, x ∈ L.foldl (fun acc y => if t y = true then putS lt acc (f y) else acc) acc ↔ x ∈ acc ∨ ∃ y ∈ L, t y = true ∧ x = f y
  | [], acc, h => ⟨h, fun x => by simp⟩
  | y :: L, acc, h => by
    rw [List.foldl_cons]
    by_cases c : t y = true
    · rw [if_pos c]
      obtain ⟨i1, i2⟩ := fold_put H f t L (putS lt acc (f y)) (putS_sort H h)
      refine ⟨i1, fun x => ?_⟩
      rw [i2, putS_mem H h]
      constructor
      · rintro ((rfl | a) | ⟨z, hz, hc, rfl⟩)
        · exact .inr ⟨y, by simp, c, rfl⟩
        · exact .inl a
        · exact .inr ⟨z, by simp [hz], hc, rfl⟩
      · rintro (a | ⟨z, hz, hc, rfl⟩)
        · exact .inl (.inr a)
        · rcases List.mem_cons.1 hz with rfl | hz
          · exact .inl (.inl rfl)
          · exact .inr ⟨z, hz, hc, rfl⟩
    · rw [if_neg c]
      obtain ⟨i1, i2⟩ := fold_put H f t L acc h
      refine ⟨i1, fun x => ?_⟩
      rw [i2]
      constructor
      · rintro (a | ⟨z, hz, hc, rfl⟩)
        · exact .inl a
        · exact .inr ⟨z, by simp [hz], hc, rfl⟩
      · rintro (a | ⟨z, hz, hc, rfl⟩)
        · exact .inl a
        · rcases List.mem_cons.1 hz with rfl | hz
          · exact absurd hc c
          · exact .inr ⟨z, hz, hc, rfl⟩
end
/-- Numbers, and pairs of numbers, in their order. -/
def kless (a b : Int) : Bool := decide (a < b)
def pless (p q : Int × Int) : Bool := decide (p.1 < q.1 ∨ p.1 = q.1 ∧ p.2 < q.2)
theorem kless_strict : Strict kless := ⟨fun a => decide_eq_false (by omega), fun {a b c} h1 h2 => by
  have h1 := of_decide_eq_true h1
  have h2 := of_decide_eq_true h2
  exact decide_eq_true (by omega), fun a b h1 h2 => by
  have h1 := of_decide_eq_false h1
  have h2 := of_decide_eq_false h2
  omega⟩
theorem pless_strict : Strict pless := ⟨fun a => decide_eq_false (by omega), fun {a b c} h1 h2 => by
  have h1 := of_decide_eq_true h1
  have h2 := of_decide_eq_true h2
  exact decide_eq_true (by omega), fun a b h1 h2 => by
  have h1 := of_decide_eq_false h1
  have h2 := of_decide_eq_false h2
  exact Prod.ext (by omega) (by omega)⟩
end Go.Proofs.YtaknmlohnifcdaaGreatDoor
end

section
/-
  Package cell: cells and buckets as numbers (no program).
-/
namespace Go.Proofs.YtaknmlohnifcdaaGreatDoor

/-- A row's first n cells, from column c on. -/
def rowC (c r : Int) (n : Nat) : List (Int × Int) := (List.range n).map fun (i : Nat) => (c + (i : Int), r)
/-- m rows of n cells. -/
def allC (c r : Int) (n m : Nat) : List (Int × Int) := (List.range m).flatMap fun (j : Nat) => rowC c (r + (j : Int)) n
theorem rowC_zero (c r : Int) : rowC c r 0 = [] := rfl
theorem rowC_succ (c r : Int) (n : Nat) : rowC c r (n + 1) = rowC c r n ++ [(c + (n : Int), r)] := by simp [rowC, List.range_succ]
theorem allC_succ (c r : Int) (n m : Nat) : allC c r n (m + 1) = allC c r n m ++ rowC c (r + (m : Int)) n := by simp [allC, List.range_succ]
theorem rowC_len (c r : Int) (n : Nat) : (rowC c r n).length = n := by simp [rowC]
theorem allC_len (c r : Int) (n : Nat) : ∀ m : Nat, (allC c r n m).length = m * n
  | 0 => by simp [allC]
  | m + 1 => by rw [allC_succ, List.length_append, rowC_len, allC_len c r n m, Nat.succ_mul]
theorem rowC_mem {c r x y : Int} {n : Nat} : (x, y) ∈ rowC c r n ↔ (c ≤ x ∧ x < c + (n : Int)) ∧ y = r := by
  simp only [rowC, List.mem_map, List.mem_range, Prod.mk.injEq]
  constructor
  · rintro ⟨i, h, h1, h2⟩
    exact ⟨by omega, h2.symm⟩
  · rintro ⟨⟨h1, h2⟩, h3⟩
    exact ⟨(x - c).toNat, by omega, by omega, h3.symm⟩
theorem allC_mem {c r x y : Int} {n m : Nat} : (x, y) ∈ allC c r n m ↔ (c ≤ x ∧ x < c + (n : Int)) ∧ (r ≤ y ∧ y < r + (m : Int)) := by
  simp only [allC, List.mem_flatMap, List.mem_range, rowC_mem]
  constructor
  · rintro ⟨j, h, h1, h2⟩
    exact ⟨h1, by omega⟩
  · rintro ⟨h1, h2, h3⟩
    exact ⟨(y - r).toNat, by omega, h1, by omega⟩
/-- The column of a number. -/
def colN (n : Int) : Int := n / 4194304
theorem colN_in {n : Int} (h : -2147483648 ≤ n ∧ n < 2147483648) : -512 ≤ colN n ∧ colN n ≤ 511 := by unfold colN; omega
theorem colN_le {a b : Int} (h : a ≤ b) : colN a ≤ colN b := by unfold colN; omega
end Go.Proofs.YtaknmlohnifcdaaGreatDoor
end

section
/-
  Package cell: its slow reference (but All).
-/
namespace Go.Proofs.YtaknmlohnifcdaaGreatDoor
open Go.RowKit Go.Lib

/-- The bucket of a cell. -/
def bktN (x y : Int) : Int := (((x % 4294967296 * 73856093 % 4294967296).toNat ^^^ (y % 4294967296 * 19349663 % 4294967296).toNat : Nat) : Int) % 1024
theorem to_nat32 (n : Int) : ∃ a : Nat, n % 4294967296 = (a : Int) ∧ a < 4294967296 := ⟨(n % 4294967296).toNat, by omega, by omega⟩
end Go.Proofs.YtaknmlohnifcdaaGreatDoor
end

section
/-
  Package cell: the reference's All; lists of cells that are the same.
-/
namespace Go.Proofs.YtaknmlohnifcdaaGreatDoor
open Go.RowKit Go.Lib

/-- A cell's two values. -/
def cv (c : Int × Int) : List Value := [.int .i32 c.1, .int .i32 c.2]
theorem cv_len (c : Int × Int) : (cv c).length = 2 := rfl
theorem cv_one (c : Int × Int) : ∀ u ∈ cv c, u.oneCell' = true := by
  intro u hu
  simp only [cv, List.mem_cons, List.not_mem_nil, or_false] at hu
  rcases hu with rfl | rfl <;> rfl
end Go.Proofs.YtaknmlohnifcdaaGreatDoor
end

section
/-
  Package grid: entries, their buckets, candidates as numbers and lists (no program).
-/
namespace Go.Proofs.YtaknmlohnifcdaaGreatDoor
open Go.RowKit Go.Lib

/-- An entry of a grid: its key and its box. -/
structure Ent where
  k : Int
  a : Int
  b : Int
  c : Int
  d : Int
/-- An entry's five cells. -/
def ev (e : Ent) : List Value := [.int .u32 e.k, .int .i32 e.a, .int .i32 e.b, .int .i32 e.c, .int .i32 e.d]
/-- A number's, a key's, a pair's cells. -/
def iv (n : Int) : List Value := [.int .i64 n]
theorem iv_len (n : Int) : (iv n).length = 1 := rfl
def kv (n : Int) : List Value := [.int .u32 n]
theorem kv_len (n : Int) : (kv n).length = 1 := rfl
theorem kv_one (n : Int) : ∀ u ∈ kv n, u.oneCell' = true := by
  intro u hu
  simp only [kv, List.mem_cons, List.not_mem_nil, or_false] at hu
  subst hu
  rfl
def pv (p : Int × Int) : List Value := [.int .u32 p.1, .int .u32 p.2]
theorem pv_len (p : Int × Int) : (pv p).length = 2 := rfl
theorem pv_one (p : Int × Int) : ∀ u ∈ pv p, u.oneCell' = true := by
  intro u hu
  simp only [pv, List.mem_cons, List.not_mem_nil, or_false] at hu
  rcases hu with rfl | rfl <;> rfl
/-- The columns and rows of a box, its cells, its buckets. -/
def ncB (a c : Int) : Nat := (colN c - colN a + 1).toNat
def cellsB (a b c d : Int) : List (Int × Int) := if empB a b c d = true then [] else allC (colN a) (colN b) (ncB a c) (ncB b d)
def bksB (a b c d : Int) : List Int := (cellsB a b c d).map fun x => bktN x.1 x.2
def bksE (e : Ent) : List Int := bksB e.a e.b e.c e.d
/-- Two entries have a bucket in common. -/
def comE (x y : Ent) : Bool := (bksE x).any fun n => (bksE y).contains n
def candT (x y : Ent) : Bool := decide (x.k < y.k) && comE x y
/-- The candidates, as the slow reference puts them together. -/
def candL (L : List Ent) : List (Int × Int) := L.foldl (fun acc x => L.foldl (fun acc y => if candT x y = true then putS pless acc (x.k, y.k) else acc) acc) []
def atL (L : List Ent) (n : Int) : List Int := L.foldl (fun acc x => if (bksE x).contains n = true then putS kless acc x.k else acc) []
theorem atL_spec (L : List Ent) (n : Int) : SortS kless (atL L n) ∧ ∀ x, x ∈ atL L n ↔ ∃ e ∈ L, (bksE e).contains n = true ∧ x = e.k := by
  obtain ⟨h1, h2⟩ := fold_put kless_strict (fun e : Ent => e.k) (fun e => (bksE e).contains n) L [] List.Pairwise.nil
  exact ⟨h1, fun x => by unfold atL; rw [h2]; simp⟩
theorem candL_go (M : List Ent) : ∀ (L : List Ent) (acc : List (Int × Int)), SortS pless acc →
    SortS pless (L.foldl (fun acc x => M.foldl (fun acc y => if candT x y = true then putS pless acc (x.k, y.k) else acc) acc) acc) ∧
    ∀ p, p ∈ L.foldl (fun acc x => M.foldl (fun acc y => if candT x y = true then putS pless acc (x.k, y.k) else acc) acc) acc ↔ p ∈ acc ∨ ∃ x ∈ L, ∃ y ∈ M, candT x y = true ∧ p = (x.k, y.k)
  | [], acc, h => ⟨h, fun p => by simp⟩
  | x :: L, acc, h => by
    rw [List.foldl_cons]
    obtain ⟨i1, i2⟩ := fold_put pless_strict (fun y : Ent => (x.k, y.k)) (fun y => candT x y) M acc h
    obtain ⟨j1, j2⟩ := candL_go M L _ i1
    refine ⟨j1, fun p => ?_⟩
    rw [j2, i2]
    constructor
    · rintro ((a | ⟨y, hy, hc, rfl⟩) | ⟨z, hz, y, hy, hc, rfl⟩)
      · exact .inl a
      · exact .inr ⟨x, by simp, y, hy, hc, rfl⟩
      · exact .inr ⟨z, by simp [hz], y, hy, hc, rfl⟩
    · rintro (a | ⟨z, hz, y, hy, hc, rfl⟩)
      · exact .inl (.inl a)
      · rcases List.mem_cons.1 hz with rfl | hz
        · exact .inl (.inr ⟨y, hy, hc, rfl⟩)
        · exact .inr ⟨z, hz, y, hy, hc, rfl⟩
theorem candL_spec (L : List Ent) : SortS pless (candL L) ∧ ∀ p, p ∈ candL L ↔ ∃ x ∈ L, ∃ y ∈ L, candT x y = true ∧ p = (x.k, y.k) := by
  obtain ⟨h1, h2⟩ := candL_go L L [] List.Pairwise.nil
  exact ⟨h1, fun p => by unfold candL; rw [h2]; simp⟩
theorem dropOne_len {α : Type} [DecidableEq α] (p : α) (l : List α) : (dropOne p l).length ≤ l.length := (dropOne_sub p l).length_le
theorem putS_len {α : Type} [DecidableEq α] (lt : α → α → Bool) (l : List α) (p : α) : (putS lt l p).length ≤ l.length + 1 := by
  unfold putS
  have h1 := dropOne_len p (l.dropWhile fun x => lt x p)
  have h2 := congrArg List.length (List.takeWhile_append_dropWhile (p := fun x => lt x p) (l := l))
  rw [List.length_append] at h2
  rw [List.length_append, List.length_cons]
  omega
def stepA (n : Int) (acc : List Int) (x : Ent) : List Int := if (bksE x).contains n = true then putS kless acc x.k else acc
def accA (L : List Ent) (n : Int) (a : Nat) : List Int := (L.take a).foldl (stepA n) []
theorem accA_succ {L : List Ent} {n : Int} {x : Ent} {a : Nat} (h : L[a]? = some x) : accA L n (a + 1) = stepA n (accA L n a) x := by
  unfold accA
  rw [List.take_add_one, h, List.foldl_append]
  rfl
theorem accA_all {L : List Ent} {n : Int} {a : Nat} (h : L.length ≤ a) : accA L n a = atL L n := by
  unfold accA atL
  rw [List.take_of_length_le h]
  rfl
theorem accA_len (L : List Ent) (n : Int) : ∀ a : Nat, a ≤ L.length → (accA L n a).length ≤ a
  | 0, _ => by simp [accA]
  | a + 1, h => by
    have hx : L[a]? = some (L[a]'(by omega)) := List.getElem?_eq_getElem _
    rw [accA_succ hx]
    have h2 := accA_len L n a (by omega)
    unfold stepA
    split
    · have := putS_len kless (accA L n a) (L[a]'(by omega)).k
      omega
    · omega
end Go.Proofs.YtaknmlohnifcdaaGreatDoor
end

section
/-
  Package grid: the reference's buckets, Has, Less.
-/
namespace Go.Proofs.YtaknmlohnifcdaaGreatDoor
open Go.RowKit Go.Lib

theorem own_base {w : World} {B B' : Nat} {t : TypeId} {size n : Nat} {v : Value} {xs : List Value} (h : w.ownsRow B t size v n xs) (hb : B' ≤ B) : w.ownsRow B' t size v n xs := by
  refine ⟨h.1, ?_⟩
  rcases h.2 with q | ⟨g, cap, cur, e, hg, r⟩
  · exact .inl q
  · exact .inr ⟨g, cap, cur, e, Nat.le_trans hb hg, r⟩
theorem info_int : (Tryz.prog.info? 3).map (fun i => (i.zero, i.size, i.bytes)) = some (some (.int .i64 0), 1, 8) := by kernel_rfl
end Go.Proofs.YtaknmlohnifcdaaGreatDoor
end

section
/-
  Package grid: the reference's PutPair, SamePairs.
-/
namespace Go.Proofs.YtaknmlohnifcdaaGreatDoor
open Go.RowKit Go.Lib

theorem info_pair : (Tryz.prog.info? 75).map (fun i => (i.zero, i.size, i.bytes)) = some (some (.agg #[.int .u32 0, .int .u32 0]), 2, 8) := by kernel_rfl
theorem take_while {α : Type} {t : α → Bool} : ∀ {L : List α} {k : Nat}, (∀ x ∈ L.take k, t x = true) → (∀ x, L[k]? = some x → t x = false) → L.takeWhile t = L.take k ∧ L.dropWhile t = L.drop k
  | [], k, _, _ => by simp
  | x :: L, 0, _, h => by
    have := h x rfl
    rw [List.takeWhile_cons_of_neg (by simp [this]), List.dropWhile_cons_of_neg (by simp [this])]
    simp
  | x :: L, k + 1, h1, h2 => by
    have hx := h1 x (by simp)
    obtain ⟨i1, i2⟩ := take_while (L := L) (k := k) (fun y hy => h1 y (by simp [hy])) (fun y hy => h2 y (by simpa using hy))
    rw [List.takeWhile_cons_of_pos hx, List.dropWhile_cons_of_pos hx, i1, i2]
    simp
end Go.Proofs.YtaknmlohnifcdaaGreatDoor
end

section
/-
  Package box: the reference's Overlap.
-/
namespace Go.Proofs.YtaknmlohnifcdaaGreatDoor
open Go.RowKit Go.Lib

set_option maxRecDepth 100000 in
set_option maxHeartbeats 2000000 in
theorem rov (xa ya za ta xb yb zb tb : Int) (z : Bool) (hz : ovlB xa ya za ta xb yb zb tb = z) : ROv xa ya za ta xb yb zb tb z := fun w => by
  have C1 := Lib.hid (rem xa ya za ta _ rfl)
  have C2 := Lib.hid (rem xb yb zb tb _ rfl)
  by_cases p1 : za < xa ∨ ta < ya
  · rw [show empB xa ya za ta = true from decide_eq_true p1] at C1
    obtain rfl : false = z := by rw [← hz]; unfold ovlB; exact (decide_eq_false (by omega)).symm
    clear hz
    go_enter Tryz.func32, Tryz.ntmps32
    go_wp2_with (first
      | ((with_reducible refine (C1.out _).mono ?_); rintro e w1 ⟨rfl, g1⟩
         have p0 := kept_cell g1 (b := w.heap.size) (o := 0) (v := .int .i32 xa) (by (repeat (first | rw [World.cell?_drew] | rw [World.cell?_alloc_past _ _ _ (by first | (simp; done) | (simp; omega))])); rw [World.cell?_alloc_at _ _ _ _ (by simp)]; rfl)
         have p1 := kept_cell g1 (b := w.heap.size) (o := 1) (v := .int .i32 ya) (by (repeat (first | rw [World.cell?_drew] | rw [World.cell?_alloc_past _ _ _ (by first | (simp; done) | (simp; omega))])); rw [World.cell?_alloc_at _ _ _ _ (by simp)]; rfl)
         have p2 := kept_cell g1 (b := w.heap.size) (o := 2) (v := .int .i32 za) (by (repeat (first | rw [World.cell?_drew] | rw [World.cell?_alloc_past _ _ _ (by first | (simp; done) | (simp; omega))])); rw [World.cell?_alloc_at _ _ _ _ (by simp)]; rfl)
         have p3 := kept_cell g1 (b := w.heap.size) (o := 3) (v := .int .i32 ta) (by (repeat (first | rw [World.cell?_drew] | rw [World.cell?_alloc_past _ _ _ (by first | (simp; done) | (simp; omega))])); rw [World.cell?_alloc_at _ _ _ _ (by simp)]; rfl)
         have q0 := kept_cell g1 (b := w.heap.size + 1) (o := 0) (v := .int .i32 xb) (by (repeat (first | rw [World.cell?_drew] | rw [World.cell?_alloc_past _ _ _ (by first | (simp; done) | (simp; omega))])); rw [World.cell?_alloc_at _ _ _ _ (by simp)]; rfl)
         have q1 := kept_cell g1 (b := w.heap.size + 1) (o := 1) (v := .int .i32 yb) (by (repeat (first | rw [World.cell?_drew] | rw [World.cell?_alloc_past _ _ _ (by first | (simp; done) | (simp; omega))])); rw [World.cell?_alloc_at _ _ _ _ (by simp)]; rfl)
         have q2 := kept_cell g1 (b := w.heap.size + 1) (o := 2) (v := .int .i32 zb) (by (repeat (first | rw [World.cell?_drew] | rw [World.cell?_alloc_past _ _ _ (by first | (simp; done) | (simp; omega))])); rw [World.cell?_alloc_at _ _ _ _ (by simp)]; rfl)
         have q3 := kept_cell g1 (b := w.heap.size + 1) (o := 3) (v := .int .i32 tb) (by (repeat (first | rw [World.cell?_drew] | rw [World.cell?_alloc_past _ _ _ (by first | (simp; done) | (simp; omega))])); rw [World.cell?_alloc_at _ _ _ _ (by simp)]; rfl)
         have gg := grown_trans (((Grown.refl _).alloc _ _).alloc _ _) g1
         have zp_w1 : w.heap.size < w1.heap.size := World.block_lt_of_cell? _ _ p0
         have zq_w1 : w.heap.size + 1 < w1.heap.size := World.block_lt_of_cell? _ _ q0)
      | ((with_reducible refine (C2.out _).mono ?_); rintro e w2 ⟨rfl, g2⟩
         replace p0 := kept_cell g2 p0
         replace p1 := kept_cell g2 p1
         replace p2 := kept_cell g2 p2
         replace p3 := kept_cell g2 p3
         replace q0 := kept_cell g2 q0
         replace q1 := kept_cell g2 q1
         replace q2 := kept_cell g2 q2
         replace q3 := kept_cell g2 q3
         replace gg := grown_trans gg g2))
    go_ret
    exact ⟨rfl, gg⟩
  rw [show empB xa ya za ta = false from decide_eq_false p1] at C1
  by_cases p2 : zb < xb ∨ tb < yb
  · rw [show empB xb yb zb tb = true from decide_eq_true p2] at C2
    obtain rfl : false = z := by rw [← hz]; unfold ovlB; exact (decide_eq_false (by omega)).symm
    clear hz
    go_enter Tryz.func32, Tryz.ntmps32
    go_wp2_with (first
      | ((with_reducible refine (C1.out _).mono ?_); rintro e w1 ⟨rfl, g1⟩
         have p0 := kept_cell g1 (b := w.heap.size) (o := 0) (v := .int .i32 xa) (by (repeat (first | rw [World.cell?_drew] | rw [World.cell?_alloc_past _ _ _ (by first | (simp; done) | (simp; omega))])); rw [World.cell?_alloc_at _ _ _ _ (by simp)]; rfl)
         have p1 := kept_cell g1 (b := w.heap.size) (o := 1) (v := .int .i32 ya) (by (repeat (first | rw [World.cell?_drew] | rw [World.cell?_alloc_past _ _ _ (by first | (simp; done) | (simp; omega))])); rw [World.cell?_alloc_at _ _ _ _ (by simp)]; rfl)
         have p2 := kept_cell g1 (b := w.heap.size) (o := 2) (v := .int .i32 za) (by (repeat (first | rw [World.cell?_drew] | rw [World.cell?_alloc_past _ _ _ (by first | (simp; done) | (simp; omega))])); rw [World.cell?_alloc_at _ _ _ _ (by simp)]; rfl)
         have p3 := kept_cell g1 (b := w.heap.size) (o := 3) (v := .int .i32 ta) (by (repeat (first | rw [World.cell?_drew] | rw [World.cell?_alloc_past _ _ _ (by first | (simp; done) | (simp; omega))])); rw [World.cell?_alloc_at _ _ _ _ (by simp)]; rfl)
         have q0 := kept_cell g1 (b := w.heap.size + 1) (o := 0) (v := .int .i32 xb) (by (repeat (first | rw [World.cell?_drew] | rw [World.cell?_alloc_past _ _ _ (by first | (simp; done) | (simp; omega))])); rw [World.cell?_alloc_at _ _ _ _ (by simp)]; rfl)
         have q1 := kept_cell g1 (b := w.heap.size + 1) (o := 1) (v := .int .i32 yb) (by (repeat (first | rw [World.cell?_drew] | rw [World.cell?_alloc_past _ _ _ (by first | (simp; done) | (simp; omega))])); rw [World.cell?_alloc_at _ _ _ _ (by simp)]; rfl)
         have q2 := kept_cell g1 (b := w.heap.size + 1) (o := 2) (v := .int .i32 zb) (by (repeat (first | rw [World.cell?_drew] | rw [World.cell?_alloc_past _ _ _ (by first | (simp; done) | (simp; omega))])); rw [World.cell?_alloc_at _ _ _ _ (by simp)]; rfl)
         have q3 := kept_cell g1 (b := w.heap.size + 1) (o := 3) (v := .int .i32 tb) (by (repeat (first | rw [World.cell?_drew] | rw [World.cell?_alloc_past _ _ _ (by first | (simp; done) | (simp; omega))])); rw [World.cell?_alloc_at _ _ _ _ (by simp)]; rfl)
         have gg := grown_trans (((Grown.refl _).alloc _ _).alloc _ _) g1
         have zp_w1 : w.heap.size < w1.heap.size := World.block_lt_of_cell? _ _ p0
         have zq_w1 : w.heap.size + 1 < w1.heap.size := World.block_lt_of_cell? _ _ q0)
      | ((with_reducible refine (C2.out _).mono ?_); rintro e w2 ⟨rfl, g2⟩
         replace p0 := kept_cell g2 p0
         replace p1 := kept_cell g2 p1
         replace p2 := kept_cell g2 p2
         replace p3 := kept_cell g2 p3
         replace q0 := kept_cell g2 q0
         replace q1 := kept_cell g2 q1
         replace q2 := kept_cell g2 q2
         replace q3 := kept_cell g2 q3
         replace gg := grown_trans gg g2))
    go_ret
    exact ⟨rfl, gg⟩
  rw [show empB xb yb zb tb = false from decide_eq_false p2] at C2
  by_cases k0 : xa ≤ zb
  rotate_left
  · have d0 : decide (xa ≤ zb) = false := decide_eq_false k0
    obtain rfl : false = z := by rw [← hz]; unfold ovlB; exact (decide_eq_false (by omega)).symm
    clear hz
    go_enter Tryz.func32, Tryz.ntmps32
    go_wp2_with (first
      | ((with_reducible refine (C1.out _).mono ?_); rintro e w1 ⟨rfl, g1⟩
         have p0 := kept_cell g1 (b := w.heap.size) (o := 0) (v := .int .i32 xa) (by (repeat (first | rw [World.cell?_drew] | rw [World.cell?_alloc_past _ _ _ (by first | (simp; done) | (simp; omega))])); rw [World.cell?_alloc_at _ _ _ _ (by simp)]; rfl)
         have p1 := kept_cell g1 (b := w.heap.size) (o := 1) (v := .int .i32 ya) (by (repeat (first | rw [World.cell?_drew] | rw [World.cell?_alloc_past _ _ _ (by first | (simp; done) | (simp; omega))])); rw [World.cell?_alloc_at _ _ _ _ (by simp)]; rfl)
         have p2 := kept_cell g1 (b := w.heap.size) (o := 2) (v := .int .i32 za) (by (repeat (first | rw [World.cell?_drew] | rw [World.cell?_alloc_past _ _ _ (by first | (simp; done) | (simp; omega))])); rw [World.cell?_alloc_at _ _ _ _ (by simp)]; rfl)
         have p3 := kept_cell g1 (b := w.heap.size) (o := 3) (v := .int .i32 ta) (by (repeat (first | rw [World.cell?_drew] | rw [World.cell?_alloc_past _ _ _ (by first | (simp; done) | (simp; omega))])); rw [World.cell?_alloc_at _ _ _ _ (by simp)]; rfl)
         have q0 := kept_cell g1 (b := w.heap.size + 1) (o := 0) (v := .int .i32 xb) (by (repeat (first | rw [World.cell?_drew] | rw [World.cell?_alloc_past _ _ _ (by first | (simp; done) | (simp; omega))])); rw [World.cell?_alloc_at _ _ _ _ (by simp)]; rfl)
         have q1 := kept_cell g1 (b := w.heap.size + 1) (o := 1) (v := .int .i32 yb) (by (repeat (first | rw [World.cell?_drew] | rw [World.cell?_alloc_past _ _ _ (by first | (simp; done) | (simp; omega))])); rw [World.cell?_alloc_at _ _ _ _ (by simp)]; rfl)
         have q2 := kept_cell g1 (b := w.heap.size + 1) (o := 2) (v := .int .i32 zb) (by (repeat (first | rw [World.cell?_drew] | rw [World.cell?_alloc_past _ _ _ (by first | (simp; done) | (simp; omega))])); rw [World.cell?_alloc_at _ _ _ _ (by simp)]; rfl)
         have q3 := kept_cell g1 (b := w.heap.size + 1) (o := 3) (v := .int .i32 tb) (by (repeat (first | rw [World.cell?_drew] | rw [World.cell?_alloc_past _ _ _ (by first | (simp; done) | (simp; omega))])); rw [World.cell?_alloc_at _ _ _ _ (by simp)]; rfl)
         have gg := grown_trans (((Grown.refl _).alloc _ _).alloc _ _) g1
         have zp_w1 : w.heap.size < w1.heap.size := World.block_lt_of_cell? _ _ p0
         have zq_w1 : w.heap.size + 1 < w1.heap.size := World.block_lt_of_cell? _ _ q0)
      | ((with_reducible refine (C2.out _).mono ?_); rintro e w2 ⟨rfl, g2⟩
         replace p0 := kept_cell g2 p0
         replace p1 := kept_cell g2 p1
         replace p2 := kept_cell g2 p2
         replace p3 := kept_cell g2 p3
         replace q0 := kept_cell g2 q0
         replace q1 := kept_cell g2 q1
         replace q2 := kept_cell g2 q2
         replace q3 := kept_cell g2 q3
         replace gg := grown_trans gg g2))
    go_ret
    exact ⟨rfl, gg⟩
  have d0 : decide (xa ≤ zb) = true := decide_eq_true k0
  by_cases k1 : xb ≤ za
  rotate_left
  · have d1 : decide (xb ≤ za) = false := decide_eq_false k1
    obtain rfl : false = z := by rw [← hz]; unfold ovlB; exact (decide_eq_false (by omega)).symm
    clear hz
    go_enter Tryz.func32, Tryz.ntmps32
    go_wp2_with (first
      | ((with_reducible refine (C1.out _).mono ?_); rintro e w1 ⟨rfl, g1⟩
         have p0 := kept_cell g1 (b := w.heap.size) (o := 0) (v := .int .i32 xa) (by (repeat (first | rw [World.cell?_drew] | rw [World.cell?_alloc_past _ _ _ (by first | (simp; done) | (simp; omega))])); rw [World.cell?_alloc_at _ _ _ _ (by simp)]; rfl)
         have p1 := kept_cell g1 (b := w.heap.size) (o := 1) (v := .int .i32 ya) (by (repeat (first | rw [World.cell?_drew] | rw [World.cell?_alloc_past _ _ _ (by first | (simp; done) | (simp; omega))])); rw [World.cell?_alloc_at _ _ _ _ (by simp)]; rfl)
         have p2 := kept_cell g1 (b := w.heap.size) (o := 2) (v := .int .i32 za) (by (repeat (first | rw [World.cell?_drew] | rw [World.cell?_alloc_past _ _ _ (by first | (simp; done) | (simp; omega))])); rw [World.cell?_alloc_at _ _ _ _ (by simp)]; rfl)
         have p3 := kept_cell g1 (b := w.heap.size) (o := 3) (v := .int .i32 ta) (by (repeat (first | rw [World.cell?_drew] | rw [World.cell?_alloc_past _ _ _ (by first | (simp; done) | (simp; omega))])); rw [World.cell?_alloc_at _ _ _ _ (by simp)]; rfl)
         have q0 := kept_cell g1 (b := w.heap.size + 1) (o := 0) (v := .int .i32 xb) (by (repeat (first | rw [World.cell?_drew] | rw [World.cell?_alloc_past _ _ _ (by first | (simp; done) | (simp; omega))])); rw [World.cell?_alloc_at _ _ _ _ (by simp)]; rfl)
         have q1 := kept_cell g1 (b := w.heap.size + 1) (o := 1) (v := .int .i32 yb) (by (repeat (first | rw [World.cell?_drew] | rw [World.cell?_alloc_past _ _ _ (by first | (simp; done) | (simp; omega))])); rw [World.cell?_alloc_at _ _ _ _ (by simp)]; rfl)
         have q2 := kept_cell g1 (b := w.heap.size + 1) (o := 2) (v := .int .i32 zb) (by (repeat (first | rw [World.cell?_drew] | rw [World.cell?_alloc_past _ _ _ (by first | (simp; done) | (simp; omega))])); rw [World.cell?_alloc_at _ _ _ _ (by simp)]; rfl)
         have q3 := kept_cell g1 (b := w.heap.size + 1) (o := 3) (v := .int .i32 tb) (by (repeat (first | rw [World.cell?_drew] | rw [World.cell?_alloc_past _ _ _ (by first | (simp; done) | (simp; omega))])); rw [World.cell?_alloc_at _ _ _ _ (by simp)]; rfl)
         have gg := grown_trans (((Grown.refl _).alloc _ _).alloc _ _) g1
         have zp_w1 : w.heap.size < w1.heap.size := World.block_lt_of_cell? _ _ p0
         have zq_w1 : w.heap.size + 1 < w1.heap.size := World.block_lt_of_cell? _ _ q0)
      | ((with_reducible refine (C2.out _).mono ?_); rintro e w2 ⟨rfl, g2⟩
         replace p0 := kept_cell g2 p0
         replace p1 := kept_cell g2 p1
         replace p2 := kept_cell g2 p2
         replace p3 := kept_cell g2 p3
         replace q0 := kept_cell g2 q0
         replace q1 := kept_cell g2 q1
         replace q2 := kept_cell g2 q2
         replace q3 := kept_cell g2 q3
         replace gg := grown_trans gg g2))
    go_ret
    exact ⟨rfl, gg⟩
  have d1 : decide (xb ≤ za) = true := decide_eq_true k1
  by_cases k2 : ya ≤ tb
  rotate_left
  · have d2 : decide (ya ≤ tb) = false := decide_eq_false k2
    obtain rfl : false = z := by rw [← hz]; unfold ovlB; exact (decide_eq_false (by omega)).symm
    clear hz
    go_enter Tryz.func32, Tryz.ntmps32
    go_wp2_with (first
      | ((with_reducible refine (C1.out _).mono ?_); rintro e w1 ⟨rfl, g1⟩
         have p0 := kept_cell g1 (b := w.heap.size) (o := 0) (v := .int .i32 xa) (by (repeat (first | rw [World.cell?_drew] | rw [World.cell?_alloc_past _ _ _ (by first | (simp; done) | (simp; omega))])); rw [World.cell?_alloc_at _ _ _ _ (by simp)]; rfl)
         have p1 := kept_cell g1 (b := w.heap.size) (o := 1) (v := .int .i32 ya) (by (repeat (first | rw [World.cell?_drew] | rw [World.cell?_alloc_past _ _ _ (by first | (simp; done) | (simp; omega))])); rw [World.cell?_alloc_at _ _ _ _ (by simp)]; rfl)
         have p2 := kept_cell g1 (b := w.heap.size) (o := 2) (v := .int .i32 za) (by (repeat (first | rw [World.cell?_drew] | rw [World.cell?_alloc_past _ _ _ (by first | (simp; done) | (simp; omega))])); rw [World.cell?_alloc_at _ _ _ _ (by simp)]; rfl)
         have p3 := kept_cell g1 (b := w.heap.size) (o := 3) (v := .int .i32 ta) (by (repeat (first | rw [World.cell?_drew] | rw [World.cell?_alloc_past _ _ _ (by first | (simp; done) | (simp; omega))])); rw [World.cell?_alloc_at _ _ _ _ (by simp)]; rfl)
         have q0 := kept_cell g1 (b := w.heap.size + 1) (o := 0) (v := .int .i32 xb) (by (repeat (first | rw [World.cell?_drew] | rw [World.cell?_alloc_past _ _ _ (by first | (simp; done) | (simp; omega))])); rw [World.cell?_alloc_at _ _ _ _ (by simp)]; rfl)
         have q1 := kept_cell g1 (b := w.heap.size + 1) (o := 1) (v := .int .i32 yb) (by (repeat (first | rw [World.cell?_drew] | rw [World.cell?_alloc_past _ _ _ (by first | (simp; done) | (simp; omega))])); rw [World.cell?_alloc_at _ _ _ _ (by simp)]; rfl)
         have q2 := kept_cell g1 (b := w.heap.size + 1) (o := 2) (v := .int .i32 zb) (by (repeat (first | rw [World.cell?_drew] | rw [World.cell?_alloc_past _ _ _ (by first | (simp; done) | (simp; omega))])); rw [World.cell?_alloc_at _ _ _ _ (by simp)]; rfl)
         have q3 := kept_cell g1 (b := w.heap.size + 1) (o := 3) (v := .int .i32 tb) (by (repeat (first | rw [World.cell?_drew] | rw [World.cell?_alloc_past _ _ _ (by first | (simp; done) | (simp; omega))])); rw [World.cell?_alloc_at _ _ _ _ (by simp)]; rfl)
         have gg := grown_trans (((Grown.refl _).alloc _ _).alloc _ _) g1
         have zp_w1 : w.heap.size < w1.heap.size := World.block_lt_of_cell? _ _ p0
         have zq_w1 : w.heap.size + 1 < w1.heap.size := World.block_lt_of_cell? _ _ q0)
      | ((with_reducible refine (C2.out _).mono ?_); rintro e w2 ⟨rfl, g2⟩
         replace p0 := kept_cell g2 p0
         replace p1 := kept_cell g2 p1
         replace p2 := kept_cell g2 p2
         replace p3 := kept_cell g2 p3
         replace q0 := kept_cell g2 q0
         replace q1 := kept_cell g2 q1
         replace q2 := kept_cell g2 q2
         replace q3 := kept_cell g2 q3
         replace gg := grown_trans gg g2))
    go_ret
    exact ⟨rfl, gg⟩
  have d2 : decide (ya ≤ tb) = true := decide_eq_true k2
  by_cases k3 : yb ≤ ta
  rotate_left
  · have d3 : decide (yb ≤ ta) = false := decide_eq_false k3
    obtain rfl : false = z := by rw [← hz]; unfold ovlB; exact (decide_eq_false (by omega)).symm
    clear hz
    go_enter Tryz.func32, Tryz.ntmps32
    go_wp2_with (first
      | ((with_reducible refine (C1.out _).mono ?_); rintro e w1 ⟨rfl, g1⟩
         have p0 := kept_cell g1 (b := w.heap.size) (o := 0) (v := .int .i32 xa) (by (repeat (first | rw [World.cell?_drew] | rw [World.cell?_alloc_past _ _ _ (by first | (simp; done) | (simp; omega))])); rw [World.cell?_alloc_at _ _ _ _ (by simp)]; rfl)
         have p1 := kept_cell g1 (b := w.heap.size) (o := 1) (v := .int .i32 ya) (by (repeat (first | rw [World.cell?_drew] | rw [World.cell?_alloc_past _ _ _ (by first | (simp; done) | (simp; omega))])); rw [World.cell?_alloc_at _ _ _ _ (by simp)]; rfl)
         have p2 := kept_cell g1 (b := w.heap.size) (o := 2) (v := .int .i32 za) (by (repeat (first | rw [World.cell?_drew] | rw [World.cell?_alloc_past _ _ _ (by first | (simp; done) | (simp; omega))])); rw [World.cell?_alloc_at _ _ _ _ (by simp)]; rfl)
         have p3 := kept_cell g1 (b := w.heap.size) (o := 3) (v := .int .i32 ta) (by (repeat (first | rw [World.cell?_drew] | rw [World.cell?_alloc_past _ _ _ (by first | (simp; done) | (simp; omega))])); rw [World.cell?_alloc_at _ _ _ _ (by simp)]; rfl)
         have q0 := kept_cell g1 (b := w.heap.size + 1) (o := 0) (v := .int .i32 xb) (by (repeat (first | rw [World.cell?_drew] | rw [World.cell?_alloc_past _ _ _ (by first | (simp; done) | (simp; omega))])); rw [World.cell?_alloc_at _ _ _ _ (by simp)]; rfl)
         have q1 := kept_cell g1 (b := w.heap.size + 1) (o := 1) (v := .int .i32 yb) (by (repeat (first | rw [World.cell?_drew] | rw [World.cell?_alloc_past _ _ _ (by first | (simp; done) | (simp; omega))])); rw [World.cell?_alloc_at _ _ _ _ (by simp)]; rfl)
         have q2 := kept_cell g1 (b := w.heap.size + 1) (o := 2) (v := .int .i32 zb) (by (repeat (first | rw [World.cell?_drew] | rw [World.cell?_alloc_past _ _ _ (by first | (simp; done) | (simp; omega))])); rw [World.cell?_alloc_at _ _ _ _ (by simp)]; rfl)
         have q3 := kept_cell g1 (b := w.heap.size + 1) (o := 3) (v := .int .i32 tb) (by (repeat (first | rw [World.cell?_drew] | rw [World.cell?_alloc_past _ _ _ (by first | (simp; done) | (simp; omega))])); rw [World.cell?_alloc_at _ _ _ _ (by simp)]; rfl)
         have gg := grown_trans (((Grown.refl _).alloc _ _).alloc _ _) g1
         have zp_w1 : w.heap.size < w1.heap.size := World.block_lt_of_cell? _ _ p0
         have zq_w1 : w.heap.size + 1 < w1.heap.size := World.block_lt_of_cell? _ _ q0)
      | ((with_reducible refine (C2.out _).mono ?_); rintro e w2 ⟨rfl, g2⟩
         replace p0 := kept_cell g2 p0
         replace p1 := kept_cell g2 p1
         replace p2 := kept_cell g2 p2
         replace p3 := kept_cell g2 p3
         replace q0 := kept_cell g2 q0
         replace q1 := kept_cell g2 q1
         replace q2 := kept_cell g2 q2
         replace q3 := kept_cell g2 q3
         replace gg := grown_trans gg g2))
    go_ret
    exact ⟨rfl, gg⟩
  have d3 : decide (yb ≤ ta) = true := decide_eq_true k3
  obtain rfl : true = z := by rw [← hz]; unfold ovlB; exact (decide_eq_true (by omega)).symm
  clear hz
  go_enter Tryz.func32, Tryz.ntmps32
  go_wp2_with (first
    | ((with_reducible refine (C1.out _).mono ?_); rintro e w1 ⟨rfl, g1⟩
       have p0 := kept_cell g1 (b := w.heap.size) (o := 0) (v := .int .i32 xa) (by (repeat (first | rw [World.cell?_drew] | rw [World.cell?_alloc_past _ _ _ (by first | (simp; done) | (simp; omega))])); rw [World.cell?_alloc_at _ _ _ _ (by simp)]; rfl)
       have p1 := kept_cell g1 (b := w.heap.size) (o := 1) (v := .int .i32 ya) (by (repeat (first | rw [World.cell?_drew] | rw [World.cell?_alloc_past _ _ _ (by first | (simp; done) | (simp; omega))])); rw [World.cell?_alloc_at _ _ _ _ (by simp)]; rfl)
       have p2 := kept_cell g1 (b := w.heap.size) (o := 2) (v := .int .i32 za) (by (repeat (first | rw [World.cell?_drew] | rw [World.cell?_alloc_past _ _ _ (by first | (simp; done) | (simp; omega))])); rw [World.cell?_alloc_at _ _ _ _ (by simp)]; rfl)
       have p3 := kept_cell g1 (b := w.heap.size) (o := 3) (v := .int .i32 ta) (by (repeat (first | rw [World.cell?_drew] | rw [World.cell?_alloc_past _ _ _ (by first | (simp; done) | (simp; omega))])); rw [World.cell?_alloc_at _ _ _ _ (by simp)]; rfl)
       have q0 := kept_cell g1 (b := w.heap.size + 1) (o := 0) (v := .int .i32 xb) (by (repeat (first | rw [World.cell?_drew] | rw [World.cell?_alloc_past _ _ _ (by first | (simp; done) | (simp; omega))])); rw [World.cell?_alloc_at _ _ _ _ (by simp)]; rfl)
       have q1 := kept_cell g1 (b := w.heap.size + 1) (o := 1) (v := .int .i32 yb) (by (repeat (first | rw [World.cell?_drew] | rw [World.cell?_alloc_past _ _ _ (by first | (simp; done) | (simp; omega))])); rw [World.cell?_alloc_at _ _ _ _ (by simp)]; rfl)
       have q2 := kept_cell g1 (b := w.heap.size + 1) (o := 2) (v := .int .i32 zb) (by (repeat (first | rw [World.cell?_drew] | rw [World.cell?_alloc_past _ _ _ (by first | (simp; done) | (simp; omega))])); rw [World.cell?_alloc_at _ _ _ _ (by simp)]; rfl)
       have q3 := kept_cell g1 (b := w.heap.size + 1) (o := 3) (v := .int .i32 tb) (by (repeat (first | rw [World.cell?_drew] | rw [World.cell?_alloc_past _ _ _ (by first | (simp; done) | (simp; omega))])); rw [World.cell?_alloc_at _ _ _ _ (by simp)]; rfl)
       have gg := grown_trans (((Grown.refl _).alloc _ _).alloc _ _) g1
       have zp_w1 : w.heap.size < w1.heap.size := World.block_lt_of_cell? _ _ p0
       have zq_w1 : w.heap.size + 1 < w1.heap.size := World.block_lt_of_cell? _ _ q0)
    | ((with_reducible refine (C2.out _).mono ?_); rintro e w2 ⟨rfl, g2⟩
       replace p0 := kept_cell g2 p0
       replace p1 := kept_cell g2 p1
       replace p2 := kept_cell g2 p2
       replace p3 := kept_cell g2 p3
       replace q0 := kept_cell g2 q0
       replace q1 := kept_cell g2 q1
       replace q2 := kept_cell g2 q2
       replace q3 := kept_cell g2 q3
       replace gg := grown_trans gg g2))
  go_ret
  exact ⟨rfl, gg⟩
end Go.Proofs.YtaknmlohnifcdaaGreatDoor
end
