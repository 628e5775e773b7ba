/-
  Package cell: contracts of its functions, what the laws ask of the program.
-/
import Derived.Test.YtnbncdgadahhbaaDoorCellAll
import Derived.Test.YtnbncdgadahhbaaDoorFac
import Derived.Deep.DeepCutAuto
namespace Go.Proofs.YtnbncdgadahhbaaDoor
open Go.RowKit Go.Lib

abbrev CeO (x y p q : Int) : Prop := ∀ w, Calls Tryd.prog 10 #[.agg #[.int .i32 x, .int .i32 y]] w fun e w' => e = .returned (.agg #[.int .i32 p, .int .i32 q]) ∧ Kep w.heap.size w w'
abbrev CeS (xa ya za ta p q u v : Int) (z : Bool) : Prop := ∀ w, Calls Tryd.prog 13 #[.agg #[.int .i32 xa, .int .i32 ya, .int .i32 za, .int .i32 ta]] w fun e w' => e = .returned (.tuple #[.agg #[.int .i32 p, .int .i32 q], .agg #[.int .i32 u, .int .i32 v], .bool z]) ∧ Kep w.heap.size w w'
abbrev CeA (xa ya za ta : Int) (L : List (Int × Int)) : Prop := ∀ w, Calls Tryd.prog 18 #[.agg #[.int .i32 xa, .int .i32 ya, .int .i32 za, .int .i32 ta]] w fun e w' => ∃ v, e = .returned v ∧ Sq cv 2 w' v L ∧ Kep w.heap.size w w'
abbrev CeB (x y c : Int) : Prop := ∀ w, Fac w → Calls Tryd.prog 11 #[.agg #[.int .i32 x, .int .i32 y]] w fun e w' => e = .returned (.int .i64 c) ∧ Kep w.heap.size w w'
abbrev CeD (x y p q u v : Int) : Prop := ∀ w, Calls Tryd.prog 21 #[.agg #[.int .i32 x, .int .i32 y]] w fun e w' => e = .returned (.agg #[.int .i32 p, .int .i32 q, .int .i32 u, .int .i32 v]) ∧ Kep w.heap.size w w'
abbrev CxV (xa ya za ta xb yb zb tb : Int) (z : Bool) : Prop := ∀ w, Calls Tryd.prog 20 #[.agg #[.int .i32 xa, .int .i32 ya, .int .i32 za, .int .i32 ta], .agg #[.int .i32 xb, .int .i32 yb, .int .i32 zb, .int .i32 tb]] w fun e w' => e = .returned (.bool z) ∧ Kep w.heap.size w w'
abbrev CxC (xa ya za ta x y : Int) (z : Bool) : Prop := ∀ w, Calls Tryd.prog 23 #[.agg #[.int .i32 xa, .int .i32 ya, .int .i32 za, .int .i32 ta], .agg #[.int .i32 x, .int .i32 y]] w fun e w' => e = .returned (.bool z) ∧ Kep w.heap.size w w'
abbrev CxO (k r ax ay m o px py vx vy p q u v : Int) : Prop := ∀ w, Calls Tryd.prog 25 #[.agg #[.int .u32 k, .int .i32 r, .int .i32 ax, .int .i32 ay, .int .i32 m, .int .i32 o, .int .i32 px, .int .i32 py, .int .i32 vx, .int .i32 vy]] w fun e w' => e = .returned (.agg #[.int .i32 p, .int .i32 q, .int .i32 u, .int .i32 v]) ∧ Kep w.heap.size w w'
abbrev KRe (x y p q : Int) : Prop := ∀ w, Calls Tryd.prog 9 #[.agg #[.int .i32 x, .int .i32 y]] w fun e w' => e = .returned (.agg #[.int .i32 p, .int .i32 q]) ∧ Kep w.heap.size w w'
abbrev KBk (x y c : Int) : Prop := ∀ w, Calls Tryd.prog 12 #[.agg #[.int .i32 x, .int .i32 y]] w fun e w' => e = .returned (.int .i64 c) ∧ Kep w.heap.size w w'
abbrev KCt (xa ya za ta c : Int) : Prop := ∀ w, Calls Tryd.prog 16 #[.agg #[.int .i32 xa, .int .i32 ya, .int .i32 za, .int .i32 ta]] w fun e w' => e = .returned (.int .i64 c) ∧ Kep w.heap.size w w'
abbrev KEm (xa ya za ta : Int) (z : Bool) : Prop := ∀ w, Calls Tryd.prog 14 #[.agg #[.int .i32 xa, .int .i32 ya, .int .i32 za, .int .i32 ta]] w fun e w' => e = .returned (.bool z) ∧ Kep w.heap.size w w'
abbrev KCo (xa ya za ta x y : Int) (z : Bool) : Prop := ∀ w, Calls Tryd.prog 22 #[.agg #[.int .i32 xa, .int .i32 ya, .int .i32 za, .int .i32 ta], .agg #[.int .i32 x, .int .i32 y]] w fun e w' => e = .returned (.bool z) ∧ Kep w.heap.size w w'
abbrev KOv (xa ya za ta xb yb zb tb : Int) (z : Bool) : Prop := ∀ w, Calls Tryd.prog 26 #[.agg #[.int .i32 xa, .int .i32 ya, .int .i32 za, .int .i32 ta], .agg #[.int .i32 xb, .int .i32 yb, .int .i32 zb, .int .i32 tb]] w fun e w' => e = .returned (.bool z) ∧ Kep w.heap.size w w'
abbrev KOf (k r ax ay m o px py vx vy p q u v : Int) : Prop := ∀ w, Calls Tryd.prog 27 #[.agg #[.int .u32 k, .int .i32 r, .int .i32 ax, .int .i32 ay, .int .i32 m, .int .i32 o, .int .i32 px, .int .i32 py, .int .i32 vx, .int .i32 vy]] w fun e w' => e = .returned (.agg #[.int .i32 p, .int .i32 q, .int .i32 u, .int .i32 v]) ∧ Kep w.heap.size w w'
abbrev KCk (k r ax ay m o px py vx vy n : Int) : Prop := ∀ w, Calls Tryd.prog 24 #[.agg #[.int .u32 k, .int .i32 r, .int .i32 ax, .int .i32 ay, .int .i32 m, .int .i32 o, .int .i32 px, .int .i32 py, .int .i32 vx, .int .i32 vy]] w fun e w' => e = .returned (.int .i64 n) ∧ Kep w.heap.size w w'
abbrev In3 (n : Int) : Prop := -2147483648 ≤ n ∧ n < 2147483648
/-- What the laws ask of the program. -/
structure COps : Prop where
  of : ∀ x y : Int, In3 x → In3 y → CeO x y (colN x) (colN y)
  spanNo : ∀ xa ya za ta : Int, empB xa ya za ta = true → CeS xa ya za ta 0 0 0 0 false
  span : ∀ xa ya za ta : Int, In3 xa → In3 ya → In3 za → In3 ta → empB xa ya za ta = false → CeS xa ya za ta (colN xa) (colN ya) (colN za) (colN ta) true
  allNo : ∀ xa ya za ta : Int, empB xa ya za ta = true → CeA xa ya za ta []
  all : ∀ xa ya za ta : Int, ∀ n m : Nat, In3 xa → In3 ya → In3 za → In3 ta → empB xa ya za ta = false → colN za = colN xa + n - 1 → colN ta = colN ya + m - 1 → m * n ≤ 4000 → CeA xa ya za ta (allC (colN xa) (colN ya) n m)
  bucket : ∀ x y : Int, In3 x → In3 y → CeB x y (bktN x y)
  bounds : ∀ x y : Int, (-512 ≤ x ∧ x ≤ 511) → (-512 ≤ y ∧ y ≤ 511) → CeD x y (x * 4194304) (y * 4194304) (x * 4194304 + 4194303) (y * 4194304 + 4194303)
  overlap : ∀ xa ya za ta xb yb zb tb : Int, CxV xa ya za ta xb yb zb tb (ovlB xa ya za ta xb yb zb tb)
  contains : ∀ xa ya za ta x y : Int, CxC xa ya za ta x y (conB xa ya za ta x y)
  box : ∀ k r ax ay m o px py vx vy x y : Int, (-4194304 ≤ ax ∧ ax ≤ 4194304) → (-4194304 ≤ ay ∧ ay ≤ 4194304) → (4096 ≤ r ∧ r ≤ 4194304) → max ax (-ax) + r = x → max ay (-ay) + r = y → (-2147483648 ≤ px - x ∧ px + x < 2147483648) → (-2147483648 ≤ py - y ∧ py + y < 2147483648) → CxO k r ax ay m o px py vx vy (px - x) (py - y) (px + x) (py + y)
abbrev CAwake : Prop := ∀ w, Fac w → Calls Tryd.prog 8 #[] w fun e w' => e = .returned (.bool true) ∧ Kep w.heap.size w w'
theorem cell_eql (a b : Int) (w : World) : (binOp .eql 29 (.agg #[.int .i32 a, .int .i32 b]) (.agg #[.int .i32 a, .int .i32 b])).run Tryd.prog w = .ok (.bool true) w := by simp [go_sem]
theorem cell_cmp (a b c d : Int) (z : Bool) (h : decide (a = c ∧ b = d) = z) (w : World) : (binOp .eql 29 (.agg #[.int .i32 a, .int .i32 b]) (.agg #[.int .i32 c, .int .i32 d])).run Tryd.prog w = .ok (.bool z) w := by
  rw [← h]
  by_cases e0 : a = c
  · by_cases e1 : b = d
    · subst e0; subst e1
      simp [go_sem]
    · subst e0
      have t : (b == d) = false := beq_eq_false_iff_ne.2 e1
      simp [go_sem, e1]
  · simp [go_sem, e0]
end Go.Proofs.YtnbncdgadahhbaaDoor
