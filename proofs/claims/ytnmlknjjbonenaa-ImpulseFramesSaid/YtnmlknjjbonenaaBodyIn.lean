/-
  What a valid body's parts lie within.
-/
import Derived.Test.YtnmlknjjbonenaaBodyRef
namespace Go.Proofs.Ytnmlknjjbonenaa
open Go.RowKit Go.Lib

theorem chk_lim {r ax ay m o px py vx vy : Int} (h : chk r ax ay m o px py vx vy = 0) : (4096 ≤ r ∧ r ≤ 4194304) ∧ ((-4194304 ≤ ax ∧ ax ≤ 4194304) ∧ (-4194304 ≤ ay ∧ ay ≤ 4194304)) ∧ ((-1073741824 ≤ px ∧ px ≤ 1073741824) ∧ (-1073741824 ≤ py ∧ py ≤ 1073741824)) := by
  unfold chk at h
  split at h
  · split at h
    · split at h
      · split at h
        · split at h
          · rename_i h1 h2 h3 h4 h5
            exact ⟨h1, h2, h5⟩
          · omega
        · omega
      · omega
    · omega
  · omega
end Go.Proofs.Ytnmlknjjbonenaa
