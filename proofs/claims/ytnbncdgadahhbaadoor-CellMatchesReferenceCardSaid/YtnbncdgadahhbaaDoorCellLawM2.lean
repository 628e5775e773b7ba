/-
  Package cell: the law CellMatchesReference, whole.
-/
import Derived.Test.YtnbncdgadahhbaaDoorCellLawM
import Derived.Deep.DeepCutAuto
namespace Go.Proofs.YtnbncdgadahhbaaDoor
open Go.RowKit Go.Lib

/-- The law CellMatchesReference. -/
theorem cml_law (AW : CAwake) (O : COps) (x y xa ya za ta cx cy : Int) (hx : In3 x) (hy : In3 y) (hcx : In3 cx) (hcy : In3 cy) (hxa : In3 xa) (hya : In3 ya) (hza : In3 za) (hta : In3 ta) (w : World) (F0 : Fac w) : Calls Tryd.prog 3 #[.agg #[.int .i32 x, .int .i32 y], .agg #[.int .i32 xa, .int .i32 ya, .int .i32 za, .int .i32 ta], .agg #[.int .i32 cx, .int .i32 cy]] w fun e w' => e = .returned (.bool true) ∧ Kep w.heap.size w w' := by
  by_cases h : za < xa ∨ ta < ya
  · exact cml_empty x y cx cy xa ya za ta _ _ _ 0 (Lib.hid AW) (Lib.hid (fun w => kep_calls (rce x y _ _ (Lib.hid (rcl hx)) (Lib.hid (rcl hy)) w))) (Lib.hid (O.of x y hx hy)) (Lib.hid (O.bucket cx cy hcx hcy)) (Lib.hid (fun w => kep_calls (rbk cx cy w))) (Lib.hid (O.spanNo _ _ _ _ (decide_eq_true h))) (Lib.hid (fun w => kep_calls (rem _ _ _ _ true (decide_eq_true h) w))) (Lib.hid (fun w => kep_calls (rct_no _ _ _ _ h w))) (by decide) [] (by simp) (Lib.hid (O.allNo _ _ _ _ (decide_eq_true h))) (Lib.hid (ral_no _ _ _ _ h)) w F0
  obtain ⟨n, hn⟩ : ∃ n : Nat, colN za = colN xa + n - 1 := ⟨(colN za - colN xa + 1).toNat, by have := colN_le (show xa ≤ za by omega); omega⟩
  obtain ⟨m, hm⟩ : ∃ m : Nat, colN ta = colN ya + m - 1 := ⟨(colN ta - colN ya + 1).toNat, by have := colN_le (show ya ≤ ta by omega); omega⟩
  have a1 := colN_in hxa
  have a2 := colN_in hya
  have a3 := colN_in hza
  have a4 := colN_in hta
  have ln : n ≤ 1024 := by omega
  have lm : m ≤ 1024 := by omega
  have lnm : n * m ≤ 1024 * 1024 := Nat.mul_le_mul ln lm
  have N1 : Hid (KCt xa ya za ta ((n * m : Nat) : Int)) := Lib.hid (fun w => kep_calls (rct_yes xa ya za ta (colN xa) (colN ya) (colN za) (colN ta) n m _ (Lib.hid (rem _ _ _ _ false (decide_eq_false h))) (Lib.hid (rcl hza)) (Lib.hid (rcl hxa)) (Lib.hid (rcl hta)) (Lib.hid (rcl hya))
    (by rw [IntKind.wrap_i64]; omega) (by rw [IntKind.wrap_i64]; omega) (by rw [IntKind.wrap_i64]; omega) (by rw [IntKind.wrap_i64]; omega) (by rw [← Int.natCast_mul, IntKind.wrap_i64]; omega) (by rw [IntKind.wrap_i64]; omega) (by rw [IntKind.wrap_i64]; omega) (by rw [IntKind.wrap_i64]; omega) (by rw [IntKind.wrap_i64]; omega) w))
  have S1 := O.span xa ya za ta hxa hya hza hta (decide_eq_false h)
  have E3 : Hid (KEm xa ya za ta false) := Lib.hid (fun w => kep_calls (rem _ _ _ _ false (decide_eq_false h) w))
  by_cases hc : 4000 < n * m
  · exact cml_big x y cx cy xa ya za ta _ _ _ _ _ _ _ _ (Lib.hid AW) (Lib.hid (fun w => kep_calls (rce x y _ _ (Lib.hid (rcl hx)) (Lib.hid (rcl hy)) w))) (Lib.hid (O.of x y hx hy)) (Lib.hid (O.bucket cx cy hcx hcy)) (Lib.hid (fun w => kep_calls (rbk cx cy w))) (Lib.hid S1) E3 N1 (Lib.hid (rcl hxa)) (Lib.hid (rcl hya)) (Lib.hid (rcl hza)) (Lib.hid (rcl hta)) (decide_eq_true (by omega)) w F0
  · have hmn : m * n ≤ 4000 := by rw [Nat.mul_comm]; omega
    exact cml_all x y cx cy xa ya za ta _ _ _ _ _ _ _ _ (Lib.hid AW) (Lib.hid (fun w => kep_calls (rce x y _ _ (Lib.hid (rcl hx)) (Lib.hid (rcl hy)) w))) (Lib.hid (O.of x y hx hy)) (Lib.hid (O.bucket cx cy hcx hcy)) (Lib.hid (fun w => kep_calls (rbk cx cy w))) (Lib.hid S1) E3 N1 (Lib.hid (rcl hxa)) (Lib.hid (rcl hya)) (Lib.hid (rcl hza)) (Lib.hid (rcl hta)) (decide_eq_false (by omega)) (allC (colN xa) (colN ya) n m) (by rw [allC_len]; omega) (Lib.hid (O.all xa ya za ta n m hxa hya hza hta (decide_eq_false h) hn hm hmn))
      (Lib.hid (ral_walk xa ya za ta _ _ _ _ n m (Lib.hid (rem _ _ _ _ false (decide_eq_false h))) (Lib.hid (rcl hxa)) (Lib.hid (rcl hya)) (Lib.hid (rcl hza)) (Lib.hid (rcl hta)) hn hm (by omega) (by omega) (by omega) (by omega) (by omega))) w F0
end Go.Proofs.YtnbncdgadahhbaaDoor
