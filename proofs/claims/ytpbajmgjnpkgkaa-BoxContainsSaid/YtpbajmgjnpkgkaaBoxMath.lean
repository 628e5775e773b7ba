/-
  Package box: boxes as numbers (no program).
-/
import Derived.Test.YtpbajmgjnpkgkaaGrown
namespace Go.Proofs.Ytpbajmgjnpkgkaa

/-- The box is empty. -/
def empB (a b c d : Int) : Bool := decide (c < a ∨ d < b)
def ovlB (a b c d e f g h : Int) : Bool := decide (a ≤ c ∧ b ≤ d ∧ e ≤ g ∧ f ≤ h ∧ a ≤ g ∧ e ≤ c ∧ b ≤ h ∧ f ≤ d)
def conB (a b c d x y : Int) : Bool := decide (a ≤ x ∧ x ≤ c ∧ b ≤ y ∧ y ≤ d)
abbrev Q4 := Int × Int × Int × Int
def meeQ (a b c d e f g h : Int) : Q4 := if ovlB a b c d e f g h = true then (max a e, max b f, min c g, min d h) else (1, 0, 0, 0)
def uniQ (a b c d e f g h : Int) : Q4 := if empB a b c d = true then (if empB e f g h = true then (1, 0, 0, 0) else (e, f, g, h)) else if empB e f g h = true then (a, b, c, d) else (min a e, min b f, max c g, max d h)
end Go.Proofs.Ytpbajmgjnpkgkaa
