/-
  Package cell: what the laws ask of the program, and the laws' awake.
-/
import Derived.Test.YtnbncdgadahhbaaDoorCellOps3
import Derived.Test.YtnbncdgadahhbaaDoorCellAwake
import Derived.Test.YtnbncdgadahhbaaDoorBoxOps2
namespace Go.Proofs.YtnbncdgadahhbaaDoor
open Go.RowKit Go.Lib

theorem all_kep {L : List (Int × Int)} {args : Array Value} {w : World} (h : Calls Tryd.prog 18 args w fun e w' => ∃ v, e = .returned v ∧ w'.ownsRow w.heap.size 29 2 v L.length (L.flatMap cv) ∧ Below w.heap.size w w') :
    Calls Tryd.prog 18 args w fun e w' => ∃ v, e = .returned v ∧ Sq cv 2 w' v L ∧ Kep w.heap.size w w' := h.mono fun _ _ h => by
  obtain ⟨v, h1, h2, h3⟩ := h
  exact ⟨v, h1, own_sq cv_len h2, Kep.of_below h3⟩
theorem cops : COps where
  of := fun x y hx hy w => bel_calls (peo x y hx hy w)
  spanNo := fun xa ya za ta h w => bel_calls (pes_no xa ya za ta (Lib.hid (pee _ _ _ _ true h)) w)
  span := fun xa ya za ta h1 h2 h3 h4 h w => bel_calls (pes xa ya za ta _ _ _ _ (Lib.hid (pee _ _ _ _ false h)) (Lib.hid (peo xa ya h1 h2)) (Lib.hid (peo za ta h3 h4)) w)
  allNo := fun xa ya za ta h w => all_kep (pal_no xa ya za ta (Lib.hid (pes_no xa ya za ta (Lib.hid (pee _ _ _ _ true h)))) w)
  all := fun xa ya za ta n m h1 h2 h3 h4 h hn hm hmn w => by
    have a1 := colN_in h1
    have a2 := colN_in h2
    have a3 := colN_in h3
    have a4 := colN_in h4
    exact all_kep (pal xa ya za ta _ _ _ _ n m (Lib.hid (pes xa ya za ta _ _ _ _ (Lib.hid (pee _ _ _ _ false h)) (Lib.hid (peo xa ya h1 h2)) (Lib.hid (peo za ta h3 h4)))) hn hm (by omega) (by omega) (by omega) (by omega) (by omega) w)
  bucket := fun x y _ _ w F0 => bel_calls (peb x y w F0)
  bounds := fun x y hx hy w => bel_calls (ped x y hx hy w)
  overlap := fun _ _ _ _ _ _ _ _ w => kep_calls (pov _ _ _ _ _ _ _ _ _ rfl w)
  contains := fun _ _ _ _ _ _ w => kep_calls (pco _ _ _ _ _ _ _ rfl w)
  box := fun k r ax ay m o px py vx vy x y h1 h2 h3 hx hy b1 b2 w => kep_calls (by
    refine pof k r ax ay m o px py vx vy x y _ _ _ _ (Lib.hid (ext_in8 k r ax ay m o px py vx vy x y h1 h2 h3 hx hy)) ?_ ?_ ?_ ?_ w <;> (unfold wrap32; omega))
theorem caw : CAwake := cell_awake cops
end Go.Proofs.YtnbncdgadahhbaaDoor
