/-
  Package box: what the laws ask of the program, and the laws' awake.
-/
import Derived.Test.YtpbajmgjnpkgkaaBoxOps2
import Derived.Test.YtpbajmgjnpkgkaaBoxAwake
namespace Go.Proofs.Ytpbajmgjnpkgkaa
open Go.RowKit Go.Lib

theorem bops : BOps where
  of := fun k r ax ay m o px py vx vy x y h1 h2 h3 hx hy b1 b2 => by
    refine pof k r ax ay m o px py vx vy x y _ _ _ _ (Lib.hid (ext_in8 k r ax ay m o px py vx vy x y h1 h2 h3 hx hy)) ?_ ?_ ?_ ?_ <;> (unfold wrap32; omega)
  empty := fun _ _ _ _ => pem _ _ _ _ _ rfl
  overlap := fun _ _ _ _ _ _ _ _ => pov _ _ _ _ _ _ _ _ _ rfl
  contains := fun _ _ _ _ _ _ => pco _ _ _ _ _ _ _ rfl
  union := pun
  meet := pme
theorem baw : BAwake := box_awake bops
end Go.Proofs.Ytpbajmgjnpkgkaa
