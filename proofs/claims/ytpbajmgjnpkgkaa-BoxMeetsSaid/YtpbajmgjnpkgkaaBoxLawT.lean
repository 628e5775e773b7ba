/-
  Package box: the law BoxMeets.
-/
import Derived.Test.YtpbajmgjnpkgkaaBoxLawT1
import Derived.Test.YtpbajmgjnpkgkaaBoxLawT2
import Derived.Test.YtpbajmgjnpkgkaaBoxLawT3
import Derived.Test.YtpbajmgjnpkgkaaBoxLawT4
import Derived.Deep.DeepCutAuto
namespace Go.Proofs.Ytpbajmgjnpkgkaa
open Go.RowKit Go.Lib

theorem con_y (O : BOps) {a b c d x y : Int} (h : a ≤ x ∧ x ≤ c ∧ b ≤ y ∧ y ≤ d) : BCo a b c d x y true := by
  have := O.contains a b c d x y
  rw [show conB a b c d x y = true from decide_eq_true h] at this
  exact this
theorem con_n (O : BOps) {a b c d x y : Int} (h : ¬ (a ≤ x ∧ x ≤ c ∧ b ≤ y ∧ y ≤ d)) : BCo a b c d x y false := by
  have := O.contains a b c d x y
  rw [show conB a b c d x y = false from decide_eq_false h] at this
  exact this
theorem emp_y (O : BOps) {a b c d : Int} (h : c < a ∨ d < b) : BEm a b c d true := by
  have := O.empty a b c d
  rw [show empB a b c d = true from decide_eq_true h] at this
  exact this
theorem emp_n (O : BOps) {a b c d : Int} (h : ¬ (c < a ∨ d < b)) : BEm a b c d false := by
  have := O.empty a b c d
  rw [show empB a b c d = false from decide_eq_false h] at this
  exact this
theorem ovl_is (O : BOps) {xa ya za ta xb yb zb tb : Int} {z : Bool} (h : ovlB xa ya za ta xb yb zb tb = z) : BOv xa ya za ta xb yb zb tb z := by
  have := O.overlap xa ya za ta xb yb zb tb
  rw [h] at this
  exact this
/-- The law BoxMeets. -/
theorem btl_all (AW : BAwake) (O : BOps) (xa ya za ta xb yb zb tb x y : Int) (w : World) : Calls Try.prog 5 #[.agg #[.int .i32 xa, .int .i32 ya, .int .i32 za, .int .i32 ta], .agg #[.int .i32 xb, .int .i32 yb, .int .i32 zb, .int .i32 tb], .agg #[.int .i32 x, .int .i32 y]] w fun e w' => e = .returned (.bool true) ∧ Grown w w' := by
  have no : ovlB xa ya za ta xb yb zb tb = false → meeQ xa ya za ta xb yb zb tb = (1, 0, 0, 0) := fun h => by unfold meeQ; rw [h, if_neg (by simp)]
  by_cases ha : za < xa ∨ ta < ya
  · by_cases hb : zb < xb ∨ tb < yb
    · have hu : uniQ xa ya za ta xb yb zb tb = (1, 0, 0, 0) := by unfold uniQ; rw [show empB xa ya za ta = true from decide_eq_true (by omega), show empB xb yb zb tb = true from decide_eq_true (by omega)]; rfl
      have ov : ovlB xa ya za ta xb yb zb tb = false := decide_eq_false (by omega)
      have hm := no ov
      exact btl_11100 xa ya za ta xb yb zb tb x y _ (Lib.hid AW) (Lib.hid (O.meet _ _ _ _ _ _ _ _ _ _ _ _ hm)) (Lib.hid (O.union _ _ _ _ _ _ _ _ _ _ _ _ hu)) (Lib.hid (con_n O (by omega))) (Lib.hid (con_n O (by omega))) (Lib.hid (con_n O (by omega))) (Lib.hid (O.contains _ _ _ _ _ _)) (Lib.hid (ovl_is O ov)) (Lib.hid (emp_y O (by omega))) (Lib.hid (rem xa ya za ta true (decide_eq_true (by omega)))) (Lib.hid (rem xb yb zb tb true (decide_eq_true (by omega)))) w
    · have hu : uniQ xa ya za ta xb yb zb tb = (xb, yb, zb, tb) := by unfold uniQ; rw [show empB xa ya za ta = true from decide_eq_true (by omega), show empB xb yb zb tb = false from decide_eq_false (by omega)]; rfl
      have ov : ovlB xa ya za ta xb yb zb tb = false := decide_eq_false (by omega)
      have hm := no ov
      by_cases i2 : xb ≤ x ∧ x ≤ zb ∧ yb ≤ y ∧ y ≤ tb
      · exact btl_10101 xa ya za ta xb yb zb tb x y (Lib.hid AW) (Lib.hid (O.meet _ _ _ _ _ _ _ _ _ _ _ _ hm)) (Lib.hid (O.union _ _ _ _ _ _ _ _ _ _ _ _ hu)) (Lib.hid (con_n O (by omega))) (Lib.hid (con_y O (by omega))) (Lib.hid (con_n O (by omega))) (Lib.hid (con_y O (by omega))) (Lib.hid (ovl_is O ov)) (Lib.hid (emp_y O (by omega))) (Lib.hid (rem xa ya za ta true (decide_eq_true (by omega)))) (Lib.hid (rem xb yb zb tb false (decide_eq_false (by omega)))) w
      · exact btl_10100 xa ya za ta xb yb zb tb x y _ (Lib.hid AW) (Lib.hid (O.meet _ _ _ _ _ _ _ _ _ _ _ _ hm)) (Lib.hid (O.union _ _ _ _ _ _ _ _ _ _ _ _ hu)) (Lib.hid (con_n O (by omega))) (Lib.hid (con_n O (by omega))) (Lib.hid (con_n O (by omega))) (Lib.hid (O.contains _ _ _ _ _ _)) (Lib.hid (ovl_is O ov)) (Lib.hid (emp_y O (by omega))) (Lib.hid (rem xa ya za ta true (decide_eq_true (by omega)))) (Lib.hid (rem xb yb zb tb false (decide_eq_false (by omega)))) w
  · by_cases hb : zb < xb ∨ tb < yb
    · have hu : uniQ xa ya za ta xb yb zb tb = (xa, ya, za, ta) := by unfold uniQ; rw [show empB xa ya za ta = false from decide_eq_false (by omega), show empB xb yb zb tb = true from decide_eq_true (by omega)]; rfl
      have ov : ovlB xa ya za ta xb yb zb tb = false := decide_eq_false (by omega)
      have hm := no ov
      by_cases i1 : xa ≤ x ∧ x ≤ za ∧ ya ≤ y ∧ y ≤ ta
      · exact btl_01110 xa ya za ta xb yb zb tb x y (Lib.hid AW) (Lib.hid (O.meet _ _ _ _ _ _ _ _ _ _ _ _ hm)) (Lib.hid (O.union _ _ _ _ _ _ _ _ _ _ _ _ hu)) (Lib.hid (con_y O (by omega))) (Lib.hid (con_n O (by omega))) (Lib.hid (con_n O (by omega))) (Lib.hid (con_y O (by omega))) (Lib.hid (ovl_is O ov)) (Lib.hid (emp_y O (by omega))) (Lib.hid (rem xa ya za ta false (decide_eq_false (by omega)))) (Lib.hid (rem xb yb zb tb true (decide_eq_true (by omega)))) w
      · exact btl_01100 xa ya za ta xb yb zb tb x y _ (Lib.hid AW) (Lib.hid (O.meet _ _ _ _ _ _ _ _ _ _ _ _ hm)) (Lib.hid (O.union _ _ _ _ _ _ _ _ _ _ _ _ hu)) (Lib.hid (con_n O (by omega))) (Lib.hid (con_n O (by omega))) (Lib.hid (con_n O (by omega))) (Lib.hid (O.contains _ _ _ _ _ _)) (Lib.hid (ovl_is O ov)) (Lib.hid (emp_y O (by omega))) (Lib.hid (rem xa ya za ta false (decide_eq_false (by omega)))) (Lib.hid (rem xb yb zb tb true (decide_eq_true (by omega)))) w
    · have hu : uniQ xa ya za ta xb yb zb tb = (min xa xb, min ya yb, max za zb, max ta tb) := by unfold uniQ; rw [show empB xa ya za ta = false from decide_eq_false (by omega), show empB xb yb zb tb = false from decide_eq_false (by omega)]; rfl
      by_cases hv : xa ≤ zb ∧ xb ≤ za ∧ ya ≤ tb ∧ yb ≤ ta
      · have ov : ovlB xa ya za ta xb yb zb tb = true := decide_eq_true (by omega)
        have hm : meeQ xa ya za ta xb yb zb tb = (max xa xb, max ya yb, min za zb, min ta tb) := by unfold meeQ; rw [ov, if_pos rfl]
        by_cases i1 : xa ≤ x ∧ x ≤ za ∧ ya ≤ y ∧ y ≤ ta
        · by_cases i2 : xb ≤ x ∧ x ≤ zb ∧ yb ≤ y ∧ y ≤ tb
          · exact btl_00011 xa ya za ta xb yb zb tb x y _ _ _ _ _ _ _ _ (Lib.hid AW) (Lib.hid (O.meet _ _ _ _ _ _ _ _ _ _ _ _ hm)) (Lib.hid (O.union _ _ _ _ _ _ _ _ _ _ _ _ hu)) (Lib.hid (con_y O (by omega))) (Lib.hid (con_y O (by omega))) (Lib.hid (con_y O (by omega))) (Lib.hid (con_y O (by omega))) (Lib.hid (ovl_is O ov)) (Lib.hid (emp_n O (by omega))) (Lib.hid (rem xa ya za ta false (decide_eq_false (by omega)))) (Lib.hid (rem xb yb zb tb false (decide_eq_false (by omega)))) rfl rfl rfl rfl w
          · exact btl_00010 xa ya za ta xb yb zb tb x y _ _ _ _ _ _ _ _ (Lib.hid AW) (Lib.hid (O.meet _ _ _ _ _ _ _ _ _ _ _ _ hm)) (Lib.hid (O.union _ _ _ _ _ _ _ _ _ _ _ _ hu)) (Lib.hid (con_y O (by omega))) (Lib.hid (con_n O (by omega))) (Lib.hid (con_n O (by omega))) (Lib.hid (con_y O (by omega))) (Lib.hid (ovl_is O ov)) (Lib.hid (emp_n O (by omega))) (Lib.hid (rem xa ya za ta false (decide_eq_false (by omega)))) (Lib.hid (rem xb yb zb tb false (decide_eq_false (by omega)))) rfl rfl rfl rfl w
        · by_cases i2 : xb ≤ x ∧ x ≤ zb ∧ yb ≤ y ∧ y ≤ tb
          · exact btl_00001 xa ya za ta xb yb zb tb x y _ _ _ _ _ _ _ _ (Lib.hid AW) (Lib.hid (O.meet _ _ _ _ _ _ _ _ _ _ _ _ hm)) (Lib.hid (O.union _ _ _ _ _ _ _ _ _ _ _ _ hu)) (Lib.hid (con_n O (by omega))) (Lib.hid (con_y O (by omega))) (Lib.hid (con_n O (by omega))) (Lib.hid (con_y O (by omega))) (Lib.hid (ovl_is O ov)) (Lib.hid (emp_n O (by omega))) (Lib.hid (rem xa ya za ta false (decide_eq_false (by omega)))) (Lib.hid (rem xb yb zb tb false (decide_eq_false (by omega)))) rfl rfl rfl rfl w
          · exact btl_00000 xa ya za ta xb yb zb tb x y _ _ _ _ _ _ _ _ _ (Lib.hid AW) (Lib.hid (O.meet _ _ _ _ _ _ _ _ _ _ _ _ hm)) (Lib.hid (O.union _ _ _ _ _ _ _ _ _ _ _ _ hu)) (Lib.hid (con_n O (by omega))) (Lib.hid (con_n O (by omega))) (Lib.hid (con_n O (by omega))) (Lib.hid (O.contains _ _ _ _ _ _)) (Lib.hid (ovl_is O ov)) (Lib.hid (emp_n O (by omega))) (Lib.hid (rem xa ya za ta false (decide_eq_false (by omega)))) (Lib.hid (rem xb yb zb tb false (decide_eq_false (by omega)))) rfl rfl rfl rfl w
      · have ov : ovlB xa ya za ta xb yb zb tb = false := decide_eq_false (by omega)
        have hm := no ov
        by_cases i1 : xa ≤ x ∧ x ≤ za ∧ ya ≤ y ∧ y ≤ ta
        · exact btl_00110 xa ya za ta xb yb zb tb x y _ _ _ _ (Lib.hid AW) (Lib.hid (O.meet _ _ _ _ _ _ _ _ _ _ _ _ hm)) (Lib.hid (O.union _ _ _ _ _ _ _ _ _ _ _ _ hu)) (Lib.hid (con_y O (by omega))) (Lib.hid (con_n O (by omega))) (Lib.hid (con_n O (by omega))) (Lib.hid (con_y O (by omega))) (Lib.hid (ovl_is O ov)) (Lib.hid (emp_y O (by omega))) (Lib.hid (rem xa ya za ta false (decide_eq_false (by omega)))) (Lib.hid (rem xb yb zb tb false (decide_eq_false (by omega)))) rfl rfl rfl rfl w
        · by_cases i2 : xb ≤ x ∧ x ≤ zb ∧ yb ≤ y ∧ y ≤ tb
          · exact btl_00101 xa ya za ta xb yb zb tb x y _ _ _ _ (Lib.hid AW) (Lib.hid (O.meet _ _ _ _ _ _ _ _ _ _ _ _ hm)) (Lib.hid (O.union _ _ _ _ _ _ _ _ _ _ _ _ hu)) (Lib.hid (con_n O (by omega))) (Lib.hid (con_y O (by omega))) (Lib.hid (con_n O (by omega))) (Lib.hid (con_y O (by omega))) (Lib.hid (ovl_is O ov)) (Lib.hid (emp_y O (by omega))) (Lib.hid (rem xa ya za ta false (decide_eq_false (by omega)))) (Lib.hid (rem xb yb zb tb false (decide_eq_false (by omega)))) rfl rfl rfl rfl w
          · exact btl_00100 xa ya za ta xb yb zb tb x y _ _ _ _ _ (Lib.hid AW) (Lib.hid (O.meet _ _ _ _ _ _ _ _ _ _ _ _ hm)) (Lib.hid (O.union _ _ _ _ _ _ _ _ _ _ _ _ hu)) (Lib.hid (con_n O (by omega))) (Lib.hid (con_n O (by omega))) (Lib.hid (con_n O (by omega))) (Lib.hid (O.contains _ _ _ _ _ _)) (Lib.hid (ovl_is O ov)) (Lib.hid (emp_y O (by omega))) (Lib.hid (rem xa ya za ta false (decide_eq_false (by omega)))) (Lib.hid (rem xb yb zb tb false (decide_eq_false (by omega)))) rfl rfl rfl rfl w
end Go.Proofs.Ytpbajmgjnpkgkaa
