/-
  Package view: the contracts that the laws ask of the program, all of them.
-/
import Derived.Test.YtlfbiijillpnnaaViewFind
import Derived.Test.YtlfbiijillpnnaaViewCheck
import Derived.Test.YtlfbiijillpnnaaViewSort
import Derived.Test.YtlfbiijillpnnaaViewDiffP
import Derived.Test.YtlfbiijillpnnaaViewApply
import Derived.Test.YtlfbiijillpnnaaViewAwake
namespace Go.Proofs.Ytlfbiijillpnnaa
open Go.RowKit Go.Lib

theorem vops : VOps := ⟨vcheck_p, psort_any, vfind_any, pdiff_any, papply_any⟩
theorem vaw : VAwake := view_awake vops
end Go.Proofs.Ytlfbiijillpnnaa
