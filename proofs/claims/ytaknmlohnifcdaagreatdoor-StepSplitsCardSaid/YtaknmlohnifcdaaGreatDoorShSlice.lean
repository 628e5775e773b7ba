/-
  Shifts as arguments: a slice of them opened as a list (with its length at most its capacity).
-/
import Derived.Test.YtaknmlohnifcdaaGreatDoorRows
import Derived.Test.YtaknmlohnifcdaaGreatDoorJ04PointRef
import Derived.Test.YtaknmlohnifcdaaGreatDoorJ00Bits
import Derived.WalkKit
import Derived.ProofKit
import Derived.OpenShut
import Derived.ChangeSame
import Derived.Lib.SmallJoins
import Derived.Deep.Slices
namespace Go.Proofs.YtaknmlohnifcdaaGreatDoor
open Go.ChangeShapes Go.WideShapes Go.ChangeAt Go.RowKit Go.Joins Go.Deep

theorem KepS.same {W W' : World} (h : Kep W.heap.size W W') {p : MemPlace} (hp : p.block < W.heap.size) : W.sameAt W' p := by
  cases p with
  | cell b o => exact World.cell?_of_block (w := W) (h.block b hp)
  | map b => exact h.block b hp
theorem KepS.trod {H : Type} {enc : TypeId × Value → H} {P : Program} {t : TypeId} (hl : laidOutB P = true) (hr : P.readableRec t = true) (hrow : t < P.types.size) {W W' : World} {v : Value} {d : DataW H} {ps : List MemPlace}
    (h : DataW.Trod enc P W 0 (fun _ => true) true t v d ps) (hb : Kep W.heap.size W W') (hlt : ∀ x ∈ ps, x.block < W.heap.size) :
    DataW.Trod enc P W' 0 (fun b => decide (b < W.heap.size)) true t v d ps :=
  WideElems.Trod_stays hl hr hrow h (fun x hx => KepS.same hb (hlt x hx)) (fun x hx => by simpa using hlt x hx)
end Go.Proofs.YtaknmlohnifcdaaGreatDoor
