/-
  Package pairs: what the laws ask of the program.
-/
import Derived.Test.YtnmnbogjnjbopaaDoorPairsProg
import Derived.Test.YtnmnbogjnjbopaaDoorPairsAwake
namespace Go.Proofs.YtnmnbogjnjbopaaDoor

theorem pops : POps := ⟨pfind, pwit, plon⟩
theorem paw : PAwake := pairs_awake pops
end Go.Proofs.YtnmnbogjnjbopaaDoor
