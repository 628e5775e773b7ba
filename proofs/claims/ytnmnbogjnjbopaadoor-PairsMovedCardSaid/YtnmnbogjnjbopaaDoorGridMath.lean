/-
  Package grid: entries, their buckets, candidates as numbers and lists (no program).
-/
import Derived.Test.YtnmnbogjnjbopaaDoorSortMath
import Derived.Test.YtnmnbogjnjbopaaDoorCellAll
namespace Go.Proofs.YtnmnbogjnjbopaaDoor
open Go.RowKit Go.Lib

/-- An entry of a grid: its key and its box. -/
structure Ent where
  k : Int
  a : Int
  b : Int
  c : Int
  d : Int
/-- An entry's five cells. -/
def ev (e : Ent) : List Value := [.int .u32 e.k, .int .i32 e.a, .int .i32 e.b, .int .i32 e.c, .int .i32 e.d]
theorem ev_len (e : Ent) : (ev e).length = 5 := rfl
/-- A number's, a key's, a pair's cells. -/
def iv (n : Int) : List Value := [.int .i64 n]
theorem iv_len (n : Int) : (iv n).length = 1 := rfl
theorem iv_one (n : Int) : ∀ u ∈ iv n, u.oneCell' = true := by
  intro u hu
  simp only [iv, List.mem_cons, List.not_mem_nil, or_false] at hu
  subst hu
  rfl
def kv (n : Int) : List Value := [.int .u32 n]
theorem kv_len (n : Int) : (kv n).length = 1 := rfl
theorem kv_one (n : Int) : ∀ u ∈ kv n, u.oneCell' = true := by
  intro u hu
  simp only [kv, List.mem_cons, List.not_mem_nil, or_false] at hu
  subst hu
  rfl
def pv (p : Int × Int) : List Value := [.int .u32 p.1, .int .u32 p.2]
theorem pv_len (p : Int × Int) : (pv p).length = 2 := rfl
theorem pv_one (p : Int × Int) : ∀ u ∈ pv p, u.oneCell' = true := by
  intro u hu
  simp only [pv, List.mem_cons, List.not_mem_nil, or_false] at hu
  rcases hu with rfl | rfl <;> rfl
/-- The columns and rows of a box, its cells, its buckets. -/
def ncB (a c : Int) : Nat := (colN c - colN a + 1).toNat
def cellsB (a b c d : Int) : List (Int × Int) := if empB a b c d = true then [] else allC (colN a) (colN b) (ncB a c) (ncB b d)
def bksB (a b c d : Int) : List Int := (cellsB a b c d).map fun x => bktN x.1 x.2
def bksE (e : Ent) : List Int := bksB e.a e.b e.c e.d
/-- Two entries have a bucket in common. -/
def comE (x y : Ent) : Bool := (bksE x).any fun n => (bksE y).contains n
def candT (x y : Ent) : Bool := decide (x.k < y.k) && comE x y
/-- The candidates, as the slow reference puts them together. -/
def candL (L : List Ent) : List (Int × Int) := L.foldl (fun acc x => L.foldl (fun acc y => if candT x y = true then putS pless acc (x.k, y.k) else acc) acc) []
def atL (L : List Ent) (n : Int) : List Int := L.foldl (fun acc x => if (bksE x).contains n = true then putS kless acc x.k else acc) []
theorem atL_spec (L : List Ent) (n : Int) : SortS kless (atL L n) ∧ ∀ x, x ∈ atL L n ↔ ∃ e ∈ L, (bksE e).contains n = true ∧ x = e.k := by
  obtain ⟨h1, h2⟩ := fold_put kless_strict (fun e : Ent => e.k) (fun e => (bksE e).contains n) L [] List.Pairwise.nil
  exact ⟨h1, fun x => by unfold atL; rw [h2]; simp⟩
theorem candL_go (M : List Ent) : ∀ (L : List Ent) (acc : List (Int × Int)), SortS pless acc →
    SortS pless (L.foldl (fun acc x => M.foldl (fun acc y => if candT x y = true then putS pless acc (x.k, y.k) else acc) acc) acc) ∧
    ∀ p, p ∈ L.foldl (fun acc x => M.foldl (fun acc y => if candT x y = true then putS pless acc (x.k, y.k) else acc) acc) acc ↔ p ∈ acc ∨ ∃ x ∈ L, ∃ y ∈ M, candT x y = true ∧ p = (x.k, y.k)
  | [], acc, h => ⟨h, fun p => by simp⟩
  | x :: L, acc, h => by
    rw [List.foldl_cons]
    obtain ⟨i1, i2⟩ := fold_put pless_strict (fun y : Ent => (x.k, y.k)) (fun y => candT x y) M acc h
    obtain ⟨j1, j2⟩ := candL_go M L _ i1
    refine ⟨j1, fun p => ?_⟩
    rw [j2, i2]
    constructor
    · rintro ((a | ⟨y, hy, hc, rfl⟩) | ⟨z, hz, y, hy, hc, rfl⟩)
      · exact .inl a
      · exact .inr ⟨x, by simp, y, hy, hc, rfl⟩
      · exact .inr ⟨z, by simp [hz], y, hy, hc, rfl⟩
    · rintro (a | ⟨z, hz, y, hy, hc, rfl⟩)
      · exact .inl (.inl a)
      · rcases List.mem_cons.1 hz with rfl | hz
        · exact .inl (.inr ⟨y, hy, hc, rfl⟩)
        · exact .inr ⟨z, hz, y, hy, hc, rfl⟩
theorem candL_spec (L : List Ent) : SortS pless (candL L) ∧ ∀ p, p ∈ candL L ↔ ∃ x ∈ L, ∃ y ∈ L, candT x y = true ∧ p = (x.k, y.k) := by
  obtain ⟨h1, h2⟩ := candL_go L L [] List.Pairwise.nil
  exact ⟨h1, fun p => by unfold candL; rw [h2]; simp⟩
theorem dropOne_len {α : Type} [DecidableEq α] (p : α) (l : List α) : (dropOne p l).length ≤ l.length := (dropOne_sub p l).length_le
theorem putS_len {α : Type} [DecidableEq α] (lt : α → α → Bool) (l : List α) (p : α) : (putS lt l p).length ≤ l.length + 1 := by
  unfold putS
  have h1 := dropOne_len p (l.dropWhile fun x => lt x p)
  have h2 := congrArg List.length (List.takeWhile_append_dropWhile (p := fun x => lt x p) (l := l))
  rw [List.length_append] at h2
  rw [List.length_append, List.length_cons]
  omega
/-- The candidates after the first entries: of all, and with the one at hand. -/
def stepC (x : Ent) (acc : List (Int × Int)) (y : Ent) : List (Int × Int) := if candT x y = true then putS pless acc (x.k, y.k) else acc
def accI (L : List Ent) (x : Ent) (acc : List (Int × Int)) (b : Nat) : List (Int × Int) := (L.take b).foldl (stepC x) acc
def accO (L : List Ent) (a : Nat) : List (Int × Int) := (L.take a).foldl (fun acc x => L.foldl (stepC x) acc) []
theorem accI_succ {L : List Ent} {x y : Ent} {acc : List (Int × Int)} {b : Nat} (h : L[b]? = some y) : accI L x acc (b + 1) = stepC x (accI L x acc b) y := by
  unfold accI
  rw [List.take_add_one, h, List.foldl_append]
  rfl
theorem accO_succ {L : List Ent} {x : Ent} {a : Nat} (h : L[a]? = some x) : accO L (a + 1) = accI L x (accO L a) L.length := by
  unfold accO accI
  rw [List.take_add_one, h, List.foldl_append, List.take_length]
  rfl
theorem accO_all {L : List Ent} {a : Nat} (h : L.length ≤ a) : accO L a = candL L := by
  unfold accO candL
  rw [List.take_of_length_le h]
  rfl
theorem stepC_len (x : Ent) (acc : List (Int × Int)) (y : Ent) : (stepC x acc y).length ≤ acc.length + 1 := by
  unfold stepC
  split
  · exact putS_len _ _ _
  · omega
theorem foldC_len (x : Ent) : ∀ (M : List Ent) (acc : List (Int × Int)), (M.foldl (stepC x) acc).length ≤ acc.length + M.length
  | [], acc => by simp
  | y :: M, acc => by
    have := foldC_len x M (stepC x acc y)
    have := stepC_len x acc y
    rw [List.foldl_cons, List.length_cons]
    omega
theorem accI_len (L : List Ent) (x : Ent) (acc : List (Int × Int)) (b : Nat) : (accI L x acc b).length ≤ acc.length + b := by
  have := foldC_len x (L.take b) acc
  have := List.length_take_le b L
  unfold accI
  omega
theorem accO_len (L : List Ent) : ∀ a : Nat, a ≤ L.length → (accO L a).length ≤ a * L.length
  | 0, _ => by simp [accO]
  | a + 1, h => by
    have hx : L[a]? = some (L[a]'(by omega)) := List.getElem?_eq_getElem _
    rw [accO_succ hx]
    have h1 := accI_len L (L[a]'(by omega)) (accO L a) L.length
    have h2 := accO_len L a (by omega)
    rw [Nat.succ_mul]
    omega
theorem any_succ {l : List Int} {t : Int → Bool} {c : Nat} {m : Int} (h : l[c]? = some m) : (l.take (c + 1)).any t = ((l.take c).any t || t m) := by
  rw [List.take_add_one, h, List.any_append]
  simp
def stepA (n : Int) (acc : List Int) (x : Ent) : List Int := if (bksE x).contains n = true then putS kless acc x.k else acc
def accA (L : List Ent) (n : Int) (a : Nat) : List Int := (L.take a).foldl (stepA n) []
theorem accA_succ {L : List Ent} {n : Int} {x : Ent} {a : Nat} (h : L[a]? = some x) : accA L n (a + 1) = stepA n (accA L n a) x := by
  unfold accA
  rw [List.take_add_one, h, List.foldl_append]
  rfl
theorem accA_all {L : List Ent} {n : Int} {a : Nat} (h : L.length ≤ a) : accA L n a = atL L n := by
  unfold accA atL
  rw [List.take_of_length_le h]
  rfl
theorem accA_len (L : List Ent) (n : Int) : ∀ a : Nat, a ≤ L.length → (accA L n a).length ≤ a
  | 0, _ => by simp [accA]
  | a + 1, h => by
    have hx : L[a]? = some (L[a]'(by omega)) := List.getElem?_eq_getElem _
    rw [accA_succ hx]
    have h2 := accA_len L n a (by omega)
    unfold stepA
    split
    · have := putS_len kless (accA L n a) (L[a]'(by omega)).k
      omega
    · omega
/-- Few entries, of few cells. -/
def fewB (L : List Ent) : Bool := decide (L.length ≤ 40) && L.all fun e => decide ((cellsB e.a e.b e.c e.d).length ≤ 50)
end Go.Proofs.YtnmnbogjnjbopaaDoor
