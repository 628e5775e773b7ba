/-
  Package body: the contract of Check, and the fixed examples of its laws.
-/
import Derived.Test.YtllkokfaodpfiaaBodyCheck
import Derived.Test.YtllkokfaodpfiaaGrown
import Derived.Deep.DeepCutAuto
import Derived.Test.YtllkokfaodpfiaaBodyRef
namespace Go.Proofs.Ytllkokfaodpfiaa
open Go.RowKit Go.Lib

abbrev Chk (k r ax ay m o px py vx vy c : Int) : Prop := ∀ w, Calls Try.prog 33 #[.agg #[.int .u32 k, .int .i32 r, .int .i32 ax, .int .i32 ay, .int .i32 m, .int .i32 o, .int .i32 px, .int .i32 py, .int .i32 vx, .int .i32 vy]] w fun e w' => e = .returned (.int .i64 c) ∧ Grown w w'
theorem fst_if {P1 P2 P3 P4 P5 P6 P7 P8 P9 P10 P11 P12 P13 P14 P15 P16 P17 P18 : Prop} [Decidable P1] [Decidable P2] [Decidable P3] [Decidable P4] [Decidable P5] [Decidable P6] [Decidable P7] [Decidable P8] [Decidable P9] [Decidable P10] [Decidable P11] [Decidable P12] [Decidable P13] [Decidable P14] [Decidable P15] [Decidable P16] [Decidable P17] [Decidable P18] :
    fst6 (decide P1 && decide P2) ((decide P3 && decide P4) && (decide P5 && decide P6)) (decide P7 && decide P8) (decide P9 && decide P10) ((decide P11 && decide P12) && (decide P13 && decide P14)) ((decide P15 && decide P16) && (decide P17 && decide P18)) =
    if P1 ∧ P2 then if (P3 ∧ P4) ∧ (P5 ∧ P6) then if P7 ∧ P8 then if P9 ∧ P10 then if (P11 ∧ P12) ∧ (P13 ∧ P14) then if (P15 ∧ P16) ∧ (P17 ∧ P18) then 0 else 9 else 8 else 7 else 6 else 5 else 4 := by
  unfold fst6
  by_cases h1 : P1 ∧ P2
  · rw [if_pos h1, decide_eq_true h1.1, decide_eq_true h1.2]
    by_cases h2 : (P3 ∧ P4) ∧ (P5 ∧ P6)
    · rw [if_pos h2, decide_eq_true h2.1.1, decide_eq_true h2.1.2, decide_eq_true h2.2.1, decide_eq_true h2.2.2]
      by_cases h3 : P7 ∧ P8
      · rw [if_pos h3, decide_eq_true h3.1, decide_eq_true h3.2]
        by_cases h4 : P9 ∧ P10
        · rw [if_pos h4, decide_eq_true h4.1, decide_eq_true h4.2]
          by_cases h5 : (P11 ∧ P12) ∧ (P13 ∧ P14)
          · rw [if_pos h5, decide_eq_true h5.1.1, decide_eq_true h5.1.2, decide_eq_true h5.2.1, decide_eq_true h5.2.2]
            by_cases h6 : (P15 ∧ P16) ∧ (P17 ∧ P18)
            · rw [if_pos h6, decide_eq_true h6.1.1, decide_eq_true h6.1.2, decide_eq_true h6.2.1, decide_eq_true h6.2.2]; rfl
            · rw [if_neg h6, ← Bool.decide_and, ← Bool.decide_and, ← Bool.decide_and, decide_eq_false h6]; rfl
          · rw [if_neg h5, ← Bool.decide_and, ← Bool.decide_and (p := P13), ← Bool.decide_and (p := P11 ∧ P12), decide_eq_false h5]; rfl
        · rw [if_neg h4, ← Bool.decide_and, decide_eq_false h4]; rfl
      · rw [if_neg h3, ← Bool.decide_and, decide_eq_false h3]; rfl
    · rw [if_neg h2, ← Bool.decide_and, ← Bool.decide_and (p := P5), ← Bool.decide_and (p := P3 ∧ P4), decide_eq_false h2]; rfl
  · rw [if_neg h1, ← Bool.decide_and, decide_eq_false h1]; rfl

theorem chk_of (k : Int) {r ax ay m o px py vx vy c : Int} (h : chk r ax ay m o px py vx vy = c) : Chk k r ax ay m o px py vx vy c := fun w => by
  have e := check_ex k r ax ay m o px py vx vy _ _ _ _ _ _ rfl rfl rfl rfl rfl rfl w
  rw [fst_if] at e
  rw [← h]
  exact e

end Go.Proofs.Ytllkokfaodpfiaa
