/-
  Package contacts: what the laws ask of the program.
-/
import Derived.Test.YtangalkbjochjaaGreatDoorCtsRef
import Derived.Test.YtangalkbjochjaaGreatDoorJ15PairsRef1
import Derived.Test.YtangalkbjochjaaGreatDoorCtSlice
import Derived.Deep.DeepCutAuto
namespace Go.Proofs.YtangalkbjochjaaGreatDoor
open Go.RowKit Go.Lib

abbrev CAll : Prop := ∀ v L w, Fac w → Lst w v L → Vw L → Calls Tryz.prog 10 #[v] w fun e w' => ∃ v' n, e = .returned (.tuple #[v', .int .i64 n]) ∧ (Sq ctv 5 w' v' (consL L) ∧ ((consL L).length : Int) ≤ n ∧ 2 * n ≤ (L.length : Int) * ((L.length : Int) - 1) ∧ Rmy v') ∧ Kep w.heap.size w w'
abbrev CWith : Prop := ∀ v L key w, Sq ctv 5 w v L → L.length ≤ 1000 → Calls Tryz.prog 14 #[v, .int .u32 key] w fun e w' => ∃ v', e = .returned v' ∧ Sq ctv 5 w' v' (withC L key) ∧ Kep w.heap.size w w'
abbrev CDeep : Prop := ∀ v L w, Sq ctv 5 w v L → Rmy v → L.length ≤ 1000 → Calls Tryz.prog 11 #[v] w fun e w' => e = .returned (.tuple #[.agg #[.int .u32 (deepC L).lo, .int .u32 (deepC L).hi, .int .i32 (deepC L).nx, .int .i32 (deepC L).ny, .int .i32 (deepC L).dp], .bool (decide (0 < L.length))]) ∧ Kep w.heap.size w w'
/-- What the laws ask of the program. -/
structure COps : Prop where
  all : CAll
  with_ : CWith
  deep : CDeep
abbrev CAwake : Prop := ∀ w, Fac w → Calls Tryz.prog 9 #[] w fun e w' => e = .returned (.bool true) ∧ Kep w.heap.size w w'
theorem okc_of {L : List Bd} (h : Vw L) : ∀ x ∈ L, okC x := fun x hx => h.ok x hx
theorem ct_eqs (l h p q d : Int) (w : World) : (binOp .eql 35 (.agg #[.int .u32 l, .int .u32 h, .int .i32 p, .int .i32 q, .int .i32 d]) (.agg #[.int .u32 l, .int .u32 h, .int .i32 p, .int .i32 q, .int .i32 d])).run Tryz.prog w = .ok (.bool true) w := by simp [go_sem]
end Go.Proofs.YtangalkbjochjaaGreatDoor
