/-
  Package body: its slow reference.
-/
import Derived.Test.YtllddcjokaalpaaDoorGrown
import Derived.Deep.DeepCutAuto
namespace Go.Proofs.YtllddcjokaalpaaDoor
open Go.RowKit Go.Lib

/-- The error that a body has, 0 if none. -/
def chk (r ax ay m o px py vx vy : Int) : Int :=
  if 4096 ≤ r ∧ r ≤ 4194304 then
    if (-4194304 ≤ ax ∧ ax ≤ 4194304) ∧ (-4194304 ≤ ay ∧ ay ≤ 4194304) then
      if 0 ≤ m ∧ m ≤ 1048576 then
        if 0 ≤ o ∧ o ≤ 65536 then
          if (-1073741824 ≤ px ∧ px ≤ 1073741824) ∧ (-1073741824 ≤ py ∧ py ≤ 1073741824) then
            if (-16777216 ≤ vx ∧ vx ≤ 16777216) ∧ (-16777216 ≤ vy ∧ vy ≤ 16777216) then 0 else 9
          else 8
        else 7
      else 6
    else 5
  else 4
end Go.Proofs.YtllddcjokaalpaaDoor
