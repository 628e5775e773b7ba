/-
  Package vec: differences, their lengths and unit vectors, for all arguments in range.
-/
import Derived.Test.YtadbpfmgdjegoaaVec
namespace Go.Proofs.Ytadbpfmgdjegoaa
open Go.RowKit Go.Lib

/-- A component of a difference, in range. -/
def InD (d : Int) : Prop := -2181038080 ≤ d ∧ d ≤ 2181038080
/-- The sum of the squares. -/
def lsq (a b : Int) : Int := a * a + b * b
/-- A component of the unit vector. -/
def un (d n : Int) : Int := d * 65536 / n

theorem sq_in {d : Int} (h : InD d) : 0 ≤ d * d ∧ d * d ≤ 4756927106410086400 := by
  obtain ⟨h1, h2⟩ := h
  by_cases c : 0 ≤ d
  · exact ⟨Int.mul_nonneg c c, Int.mul_le_mul h2 h2 c (by decide)⟩
  · have e : d * d = -d * -d := (Int.neg_mul_neg d d).symm
    rw [e]
    exact ⟨Int.mul_nonneg (by omega) (by omega), Int.mul_le_mul (show -d ≤ 2181038080 by omega) (show -d ≤ 2181038080 by omega) (by omega) (by decide)⟩
theorem lengthsq_any (a b t : Int) (ha : InD a) (hb : InD b) (ht : lsq a b = t) (w : World) :
    Calls Try.prog 35 #[.int .i64 a, .int .i64 b] w fun e w' => e = .returned (.int .u64 t) ∧ w = w' := by
  have m1 := sq_in ha
  have m2 := sq_in hb
  obtain ⟨h1, h2⟩ := ha; obtain ⟨h3, h4⟩ := hb
  unfold lsq at ht
  obtain ⟨x, hx⟩ : ∃ x, x = a * a := ⟨_, rfl⟩
  obtain ⟨y, hy⟩ : ∃ y, y = b * b := ⟨_, rfl⟩
  rw [← hx, ← hy] at ht
  rw [← hx] at m1
  rw [← hy] at m2
  have e1 : a * a = x := hx.symm
  have e2 : b * b = y := hy.symm
  have f1 : IntKind.i64.wrap x = x := by rw [IntKind.wrap_i64]; omega
  have f2 : IntKind.i64.wrap y = y := by rw [IntKind.wrap_i64]; omega
  have f3 : wrap64 x = x := by unfold wrap64; omega
  have f4 : wrap64 y = y := by unfold wrap64; omega
  have f5 : IntKind.u64.wrap x = x := by rw [IntKind.wrap_u64]; omega
  have f6 : IntKind.u64.wrap y = y := by rw [IntKind.wrap_u64]; omega
  have f7 : IntKind.u64.wrap (x + y) = t := by rw [IntKind.wrap_u64]; omega
  clear hx hy ht m1 m2
  go_enter Try.func35, Try.ntmps35
  go_wp2
  go_ret
  exact ⟨rfl, rfl⟩

theorem root_ge {a b n : Int} (h : IsRoot n (lsq a b)) : (-n ≤ a ∧ a ≤ n) ∧ (-n ≤ b ∧ b ≤ n) := by
  have k : ∀ x y : Int, IsRoot n (x * x + y * y) → -n ≤ x ∧ x ≤ n := fun x y g => by
    have hy : 0 ≤ y * y := by
      by_cases c : 0 ≤ y
      · exact Int.mul_nonneg c c
      · rw [← Int.neg_mul_neg]; exact Int.mul_nonneg (by omega) (by omega)
    by_cases c : 0 ≤ x
    · have := (g.iff c).mp (by omega); omega
    · have := (g.iff (t := -x) (by omega)).mp (by rw [Int.neg_mul_neg]; omega); omega
  unfold lsq at h
  exact ⟨k a b h, k b a (by rw [Int.add_comm]; exact h)⟩

end Go.Proofs.Ytadbpfmgdjegoaa
