/-
  Package cell: cells and buckets as numbers (no program).
-/
import Derived.Test.YtllddcjokaalpaaDoorGrown
namespace Go.Proofs.YtllddcjokaalpaaDoor

/-- A row's first n cells, from column c on. -/
def rowC (c r : Int) (n : Nat) : List (Int × Int) := (List.range n).map fun (i : Nat) => (c + (i : Int), r)
/-- m rows of n cells. -/
def allC (c r : Int) (n m : Nat) : List (Int × Int) := (List.range m).flatMap fun (j : Nat) => rowC c (r + (j : Int)) n
theorem rowC_zero (c r : Int) : rowC c r 0 = [] := rfl
theorem rowC_succ (c r : Int) (n : Nat) : rowC c r (n + 1) = rowC c r n ++ [(c + (n : Int), r)] := by simp [rowC, List.range_succ]
theorem allC_succ (c r : Int) (n m : Nat) : allC c r n (m + 1) = allC c r n m ++ rowC c (r + (m : Int)) n := by simp [allC, List.range_succ]
theorem rowC_len (c r : Int) (n : Nat) : (rowC c r n).length = n := by simp [rowC]
theorem allC_len (c r : Int) (n : Nat) : ∀ m : Nat, (allC c r n m).length = m * n
  | 0 => by simp [allC]
  | m + 1 => by rw [allC_succ, List.length_append, rowC_len, allC_len c r n m, Nat.succ_mul]
theorem rowC_mem {c r x y : Int} {n : Nat} : (x, y) ∈ rowC c r n ↔ (c ≤ x ∧ x < c + (n : Int)) ∧ y = r := by
  simp only [rowC, List.mem_map, List.mem_range, Prod.mk.injEq]
  constructor
  · rintro ⟨i, h, h1, h2⟩
    exact ⟨by omega, h2.symm⟩
  · rintro ⟨⟨h1, h2⟩, h3⟩
    exact ⟨(x - c).toNat, by omega, by omega, h3.symm⟩
theorem allC_mem {c r x y : Int} {n m : Nat} : (x, y) ∈ allC c r n m ↔ (c ≤ x ∧ x < c + (n : Int)) ∧ (r ≤ y ∧ y < r + (m : Int)) := by
  simp only [allC, List.mem_flatMap, List.mem_range, rowC_mem]
  constructor
  · rintro ⟨j, h, h1, h2⟩
    exact ⟨h1, by omega⟩
  · rintro ⟨h1, h2, h3⟩
    exact ⟨(y - r).toNat, by omega, h1, by omega⟩
/-- One bit more of an exclusive or. -/
theorem xor_step (a b i : Nat) : (a ^^^ b) % 2 ^ (i + 1) = (a ^^^ b) % 2 ^ i + if a / 2 ^ i % 2 ≠ b / 2 ^ i % 2 then 2 ^ i else 0 := by
  rw [Nat.mod_pow_succ]
  have e : (a ^^^ b) / 2 ^ i % 2 = ((a ^^^ b).testBit i).toNat := (Nat.toNat_testBit _ _).symm
  rw [e, Nat.testBit_xor, ← Nat.toNat_testBit a, ← Nat.toNat_testBit b]
  cases a.testBit i <;> cases b.testBit i <;> simp
theorem xor_all {a b : Nat} (ha : a < 2 ^ 32) (hb : b < 2 ^ 32) : (a ^^^ b) % 2 ^ 32 = a ^^^ b := Nat.mod_eq_of_lt (Nat.xor_lt_two_pow ha hb)
/-- The column of a number. -/
def colN (n : Int) : Int := n / 4194304
theorem colN_in {n : Int} (h : -2147483648 ≤ n ∧ n < 2147483648) : -512 ≤ colN n ∧ colN n ≤ 511 := by unfold colN; omega
theorem colN_le {a b : Int} (h : a ≤ b) : colN a ≤ colN b := by unfold colN; omega
end Go.Proofs.YtllddcjokaalpaaDoor
