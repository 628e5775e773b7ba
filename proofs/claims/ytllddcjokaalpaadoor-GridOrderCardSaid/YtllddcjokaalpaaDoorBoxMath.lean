/-
  Package box: boxes as numbers (no program).
-/
import Derived.Test.YtllddcjokaalpaaDoorGrown
namespace Go.Proofs.YtllddcjokaalpaaDoor

/-- The box is empty. -/
def empB (a b c d : Int) : Bool := decide (c < a ∨ d < b)
def ovlB (a b c d e f g h : Int) : Bool := decide (a ≤ c ∧ b ≤ d ∧ e ≤ g ∧ f ≤ h ∧ a ≤ g ∧ e ≤ c ∧ b ≤ h ∧ f ≤ d)
def conB (a b c d x y : Int) : Bool := decide (a ≤ x ∧ x ≤ c ∧ b ≤ y ∧ y ≤ d)
abbrev Q4 := Int × Int × Int × Int
end Go.Proofs.YtllddcjokaalpaaDoor
