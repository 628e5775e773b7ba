/-
  Package correct: what it gives.
-/
import Derived.Test.YtlbbacmpdlghaaaCorOps3
import Derived.Test.YtlbbacmpdlghaaaCorAwake
import Derived.Deep.DeepCutAuto
namespace Go.Proofs.Ytlbbacmpdlghaaa
open Go.RowKit Go.Lib

theorem xops : SOps where
  amt h1 h2 hd := cam_ok h1 h2 hd
  shr z h1 h2 hd := csh_ok z h1 h2 hd
  shf := cshf
theorem xaw : SAwake := cor_awake xops
end Go.Proofs.Ytlbbacmpdlghaaa
