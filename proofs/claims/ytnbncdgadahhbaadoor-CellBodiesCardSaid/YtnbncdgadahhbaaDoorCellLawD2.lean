/-
  Package cell: the law CellBodies, whole.
-/
import Derived.Test.YtnbncdgadahhbaaDoorCellLawD
import Derived.Test.YtnbncdgadahhbaaDoorBodyIn
import Derived.Test.YtnbncdgadahhbaaDoorBoxRef2
import Derived.Deep.DeepCutAuto
namespace Go.Proofs.YtnbncdgadahhbaaDoor
open Go.RowKit Go.Lib

/-- The columns (or rows) of a body's box: at most five. -/
theorem five {p x : Int} (hx : 4096 ≤ x ∧ x ≤ 8388608) : ∃ n : Nat, colN (p + x) = colN (p - x) + n - 1 ∧ 1 ≤ n ∧ n ≤ 5 := ⟨(colN (p + x) - colN (p - x) + 1).toNat, by unfold colN; omega, by unfold colN; omega, by unfold colN; omega⟩
theorem ext_lim {a r x : Int} (ha : -4194304 ≤ a ∧ a ≤ 4194304) (hr : 4096 ≤ r ∧ r ≤ 4194304) (h : max a (-a) + r = x) : 4096 ≤ x ∧ x ≤ 8388608 := by omega
/-- What the law needs of one body. -/
theorem cell_body (O : COps) {k r ax ay m o px py vx vy : Int} (e : chk r ax ay m o px py vx vy = 0) : ∃ (X Y : Int) (nc nr : Nat), (4096 ≤ X ∧ X ≤ 8388608) ∧ (4096 ≤ Y ∧ Y ≤ 8388608) ∧ (-1073741824 ≤ px ∧ px ≤ 1073741824) ∧ (-1073741824 ≤ py ∧ py ≤ 1073741824) ∧ (1 ≤ nc ∧ nc ≤ 5) ∧ (1 ≤ nr ∧ nr ≤ 5) ∧ colN (px + X) = colN (px - X) + nc - 1 ∧ colN (py + Y) = colN (py - Y) + nr - 1
    ∧ Hid (KCk k r ax ay m o px py vx vy 0) ∧ Hid (CxO k r ax ay m o px py vx vy (px - X) (py - Y) (px + X) (py + Y)) ∧ Hid (KOf k r ax ay m o px py vx vy (px - X) (py - Y) (px + X) (py + Y)) ∧ Hid (CeA (px - X) (py - Y) (px + X) (py + Y) (allC (colN (px - X)) (colN (py - Y)) nc nr)) := by
  obtain ⟨v1, ⟨v2, v3⟩, v4, v5⟩ := chk_lim e
  obtain ⟨X, hX⟩ : ∃ X, max ax (-ax) + r = X := ⟨_, rfl⟩
  obtain ⟨Y, hY⟩ : ∃ X, max ay (-ay) + r = X := ⟨_, rfl⟩
  have x1 := ext_lim v2 v1 hX
  have y1 := ext_lim v3 v1 hY
  obtain ⟨nc, c1, c2⟩ := five (p := px) x1
  obtain ⟨nr, r1, r2⟩ := five (p := py) y1
  refine ⟨X, Y, nc, nr, x1, y1, v4, v5, c2, r2, c1, r1, Lib.hid (fun w => kep_calls (rck k r ax ay m o px py vx vy _ e w)), Lib.hid (O.box k r ax ay m o px py vx vy X Y v2 v3 v1 hX hY ⟨by omega, by omega⟩ ⟨by omega, by omega⟩),
    Lib.hid (fun w => kep_calls (rof k r ax ay m o px py vx vy _ _ X Y _ _ _ _ (Lib.hid (rab (by omega) (by omega) rfl)) (Lib.hid (rab (by omega) (by omega) rfl)) (by unfold wrap32; omega) (by unfold wrap32; omega) (by unfold wrap32; omega) (by unfold wrap32; omega) (by unfold wrap32; omega) (by unfold wrap32; omega) w)),
    Lib.hid (O.all _ _ _ _ nc nr ⟨by omega, by omega⟩ ⟨by omega, by omega⟩ ⟨by omega, by omega⟩ ⟨by omega, by omega⟩ (decide_eq_false (by omega)) c1 r1 ?_)⟩
  have := Nat.mul_le_mul r2.2 c2.2
  omega
/-- The law CellBodies. -/
theorem cdl_law (AW : CAwake) (O : COps) (k r ax ay m o px py vx vy k2 r2 ax2 ay2 m2 o2 px2 py2 vx2 vy2 : Int) (w : World) (F0 : Fac w) : Calls Tryd.prog 6 #[.agg #[.int .u32 k, .int .i32 r, .int .i32 ax, .int .i32 ay, .int .i32 m, .int .i32 o, .int .i32 px, .int .i32 py, .int .i32 vx, .int .i32 vy], .agg #[.int .u32 k2, .int .i32 r2, .int .i32 ax2, .int .i32 ay2, .int .i32 m2, .int .i32 o2, .int .i32 px2, .int .i32 py2, .int .i32 vx2, .int .i32 vy2]] w fun e w' => e = .returned (.bool true) ∧ Kep w.heap.size w w' := by
  by_cases e1 : chk r ax ay m o px py vx vy = 0
  rotate_left
  · exact cdl_bad1 k r ax ay m o px py vx vy k2 r2 ax2 ay2 m2 o2 px2 py2 vx2 vy2 _ (bne_iff_ne.2 e1) (Lib.hid AW) (Lib.hid (fun w => kep_calls (rck k r ax ay m o px py vx vy _ rfl w))) w F0
  by_cases e2 : chk r2 ax2 ay2 m2 o2 px2 py2 vx2 vy2 = 0
  rotate_left
  · exact cdl_bad2 k r ax ay m o px py vx vy k2 r2 ax2 ay2 m2 o2 px2 py2 vx2 vy2 _ (bne_iff_ne.2 e2) (Lib.hid AW) (Lib.hid (fun w => kep_calls (rck k r ax ay m o px py vx vy _ e1 w))) (Lib.hid (fun w => kep_calls (rck k2 r2 ax2 ay2 m2 o2 px2 py2 vx2 vy2 _ rfl w))) w F0
  obtain ⟨X, Y, n, c, x1, y1, p1, q1, n1, c1, hn, hc, K0, B1, R1, A1⟩ := cell_body O e1
  obtain ⟨X', Y', n', c', x2, y2, p2, q2, n2, c2, hn', hc', K1, B2, R2, A2⟩ := cell_body O e2
  have l1 : (allC (colN (px - X)) (colN (py - Y)) n c).length ≤ 25 := by
    rw [allC_len]
    have := Nat.mul_le_mul c1.2 n1.2
    omega
  have l2 : (allC (colN (px2 - X')) (colN (py2 - Y')) n' c').length ≤ 25 := by
    rw [allC_len]
    have := Nat.mul_le_mul c2.2 n2.2
    omega
  have l0 : 0 < (allC (colN (px - X)) (colN (py - Y)) n c).length := by
    rw [allC_len]
    exact Nat.mul_pos c1.1 n1.1
  by_cases hv : ovlB (px - X) (py - Y) (px + X) (py + Y) (px2 - X') (py2 - Y') (px2 + X') (py2 + Y') = true
  · refine cdl_yes k r ax ay m o px py vx vy k2 r2 ax2 ay2 m2 o2 px2 py2 vx2 vy2 _ _ _ _ _ _ _ _ _ _ l1 l0 l2 (Lib.hid AW) K0 K1 B1 B2 A1 A2 R1 R2 (Lib.hid (fun w => kep_calls (rov _ _ _ _ _ _ _ _ _ hv w))) (Lib.hid ?_) w F0
    have h := of_decide_eq_true hv
    have h1 := colN_le (show px2 - X' ≤ px + X by omega)
    have h2 := colN_le (show px - X ≤ px2 + X' by omega)
    have h3 := colN_le (show py2 - Y' ≤ py + Y by omega)
    have h4 := colN_le (show py - Y ≤ py2 + Y' by omega)
    clear h hv
    exact ⟨(max (colN (px - X)) (colN (px2 - X')), max (colN (py - Y)) (colN (py2 - Y'))), allC_mem.2 (by omega), allC_mem.2 (by omega)⟩
  · exact cdl_no k r ax ay m o px py vx vy k2 r2 ax2 ay2 m2 o2 px2 py2 vx2 vy2 _ _ _ _ _ _ _ _ _ _ l1 l0 l2 (Lib.hid AW) K0 K1 B1 B2 A1 A2 R1 R2 (Lib.hid (fun w => kep_calls (rov _ _ _ _ _ _ _ _ _ (by simpa using hv) w))) w F0
end Go.Proofs.YtnbncdgadahhbaaDoor
