/-
  Package store's reference: Same, of two slices that read as different lists.
-/
import Derived.Test.YtllkokfaodpfiaaStoreSame
import Derived.Test.YtllkokfaodpfiaaStoreLst
import Derived.Deep.QuietTactic
import Derived.BigQuiet
namespace Go.Proofs.Ytllkokfaodpfiaa
open Go.RowKit Go.Lib

theorem bd_ext {x y : Bd} (h0 : x.k = y.k) (h1 : x.r = y.r) (h2 : x.ax = y.ax) (h3 : x.ay = y.ay) (h4 : x.m = y.m) (h5 : x.o = y.o) (h6 : x.px = y.px) (h7 : x.py = y.py) (h8 : x.vx = y.vx) (h9 : x.vy = y.vy) : x = y := by
  cases x; cases y; simp_all
def eqB (x y : Bd) : Bool := x.k == y.k && (x.r == y.r && (x.ax == y.ax && (x.ay == y.ay && (x.m == y.m && (x.o == y.o && (x.px == y.px && (x.py == y.py && (x.vx == y.vx && x.vy == y.vy))))))))
theorem eqB_iff {x y : Bd} : eqB x y = true ↔ x = y := by
  constructor
  · intro h
    simp only [eqB, Bool.and_eq_true, beq_iff_eq] at h
    obtain ⟨h0, h1, h2, h3, h4, h5, h6, h7, h8, h9⟩ := h
    exact bd_ext h0 h1 h2 h3 h4 h5 h6 h7 h8 h9
  · rintro rfl
    simp [eqB]
theorem eqB_no {x y : Bd} (h : x ≠ y) : eqB x y = false := by
  cases c : eqB x y with
  | false => rfl
  | true => exact absurd (eqB_iff.1 c) h
theorem cmp_ints (x0 x1 x2 x3 x4 x5 x6 x7 x8 x9 y0 y1 y2 y3 y4 y5 y6 y7 y8 y9 : Int) (w : World) : (binOp .neq 46 (.agg #[Value.int .u32 x0, Value.int .i32 x1, Value.int .i32 x2, Value.int .i32 x3, Value.int .i32 x4, Value.int .i32 x5, Value.int .i32 x6, Value.int .i32 x7, Value.int .i32 x8, Value.int .i32 x9]) (.agg #[Value.int .u32 y0, Value.int .i32 y1, Value.int .i32 y2, Value.int .i32 y3, Value.int .i32 y4, Value.int .i32 y5, Value.int .i32 y6, Value.int .i32 y7, Value.int .i32 y8, Value.int .i32 y9])).run Try.prog w = .ok (.bool (!(x0 == y0 && (x1 == y1 && (x2 == y2 && (x3 == y3 && (x4 == y4 && (x5 == y5 && (x6 == y6 && (x7 == y7 && (x8 == y8 && (x9 == y9)))))))))))) w := by
  by_cases e0 : x0 = y0
  rotate_left
  · have f : (x0 == y0) = false := beq_eq_false_iff_ne.2 e0
    simp [go_sem, f]
  subst e0
  by_cases e1 : x1 = y1
  rotate_left
  · have f : (x1 == y1) = false := beq_eq_false_iff_ne.2 e1
    simp [go_sem, f]
  subst e1
  by_cases e2 : x2 = y2
  rotate_left
  · have f : (x2 == y2) = false := beq_eq_false_iff_ne.2 e2
    simp [go_sem, f]
  subst e2
  by_cases e3 : x3 = y3
  rotate_left
  · have f : (x3 == y3) = false := beq_eq_false_iff_ne.2 e3
    simp [go_sem, f]
  subst e3
  by_cases e4 : x4 = y4
  rotate_left
  · have f : (x4 == y4) = false := beq_eq_false_iff_ne.2 e4
    simp [go_sem, f]
  subst e4
  by_cases e5 : x5 = y5
  rotate_left
  · have f : (x5 == y5) = false := beq_eq_false_iff_ne.2 e5
    simp [go_sem, f]
  subst e5
  by_cases e6 : x6 = y6
  rotate_left
  · have f : (x6 == y6) = false := beq_eq_false_iff_ne.2 e6
    simp [go_sem, f]
  subst e6
  by_cases e7 : x7 = y7
  rotate_left
  · have f : (x7 == y7) = false := beq_eq_false_iff_ne.2 e7
    simp [go_sem, f]
  subst e7
  by_cases e8 : x8 = y8
  rotate_left
  · have f : (x8 == y8) = false := beq_eq_false_iff_ne.2 e8
    simp [go_sem, f]
  subst e8
  by_cases e9 : x9 = y9
  rotate_left
  · have f : (x9 == y9) = false := beq_eq_false_iff_ne.2 e9
    simp [go_sem, f]
  subst e9
  simp [go_sem]
theorem body_cmp (x y : Bd) (w : World) : (binOp .neq 46 (.agg #[Value.int .u32 x.k, Value.int .i32 x.r, Value.int .i32 x.ax, Value.int .i32 x.ay, Value.int .i32 x.m, Value.int .i32 x.o, Value.int .i32 x.px, Value.int .i32 x.py, Value.int .i32 x.vx, Value.int .i32 x.vy]) (.agg #[Value.int .u32 y.k, Value.int .i32 y.r, Value.int .i32 y.ax, Value.int .i32 y.ay, Value.int .i32 y.m, Value.int .i32 y.o, Value.int .i32 y.px, Value.int .i32 y.py, Value.int .i32 y.vx, Value.int .i32 y.vy])).run Try.prog w = .ok (.bool (!eqB x y)) w := cmp_ints _ _ _ _ _ _ _ _ _ _ _ _ _ _ _ _ _ _ _ _ w

set_option maxRecDepth 100000 in
set_option maxHeartbeats 1000000 in
theorem same_len (base1 base2 : Option Addr) (cap1 cap2 n1 n2 : Nat) (w : World) (hn : n1 ≠ n2) : Calls Try.prog 14 #[.slice base1 n1 cap1, .slice base2 n2 cap2] w fun e w' => e = .returned (.bool false) ∧ Kep w.heap.size w w' := by
  have e : ((n1 : Int) != (n2 : Int)) = true := bne_iff_ne.2 (by omega)
  go_enter Try.func14, Try.ntmps14
  go_wp2
  go_ret
  exact ⟨rfl, Kep.refl _ _⟩
set_option maxRecDepth 100000 in
set_option maxHeartbeats 1000000 in
theorem same_ne (v1 v2 : Value) (L M : List Bd) (w : World) (h1 : Lst w v1 L) (h2 : Lst w v2 M) (hm : L.length ≤ 1000000000) (hne : L ≠ M) :
    Calls Try.prog 14 #[v1, v2] w fun e w' => e = .returned (.bool false) ∧ Kep w.heap.size w w' := by
  obtain ⟨base1, cap1, rfl⟩ := h1.shape
  obtain ⟨base2, cap2, rfl⟩ := h2.shape
  by_cases hl : L.length = M.length
  · have H1 := Lib.hid h1
    have H2 := Lib.hid h2
    have HE := Lib.hid hne
    clear h1 h2 hne
    obtain ⟨n, hn⟩ : ∃ n, n = L.length := ⟨_, rfl⟩
    rw [← hl] at H2 ⊢
    rw [← hn] at H1 H2 hm ⊢
    have HN := Lib.hid hn.symm
    have HM : Hid (M.length = n) := Lib.hid (by omega)
    clear hl hn
    go_enter Try.func14, Try.ntmps14
    go_wp2
    go_loopw [5] (fun i wr => ∃ k : Nat, k ≤ n ∧ i = .int .i64 k ∧ Hid ((∀ j, j < k → L[j]? = M[j]?) ∧ Kep w.heap.size w wr)) (fun i _ => n - (RowKit.intOf i).toNat)
    case atStart => exact ⟨0, Nat.zero_le _, rfl, Lib.hid ⟨fun j hj => by omega, Kep.refl _ _⟩⟩
    case round =>
      obtain ⟨k, hk, rfl, HK⟩ := hrel
      by_cases hlt : k < n
      · have hx : L[k]? = some (L[k]'(by rw [HN.out]; exact hlt)) := List.getElem?_eq_getElem _
        generalize L[k]'(by rw [HN.out]; exact hlt) = x at hx
        have hy : M[k]? = some (M[k]'(by rw [HM.out]; exact hlt)) := List.getElem?_eq_getElem _
        generalize M[k]'(by rw [HM.out]; exact hlt) = y at hy
        obtain ⟨g1, off1, hb1, hc1⟩ := Lst.at_ (H1.out.kep HK.out.2) hx
        obtain ⟨g2, off2, hb2, hc2⟩ := Lst.at_ (H2.out.kep HK.out.2) hy
        subst hb1
        subst hb2
        obtain ⟨x0, x1, x2, x3, x4, x5, x6, x7, x8, x9⟩ := old_cells (Kep.refl _ _) hc1
        obtain ⟨y0, y1, y2, y3, y4, y5, y6, y7, y8, y9⟩ := old_cells (Kep.refl _ _) hc2
        have e := body_cmp x y
        have HXY := Lib.hid (And.intro hx hy)
        clear hc1 hc2 hx hy
        by_cases c : x = y
        · have q : eqB x y = true := eqB_iff.2 c
          rw [q] at e
          go_wp2_with fail
          go_quiet (fail)
          go_wp2_with fail
          go_roundw
          case rel => exact ⟨k + 1, by omega, by go_num, Lib.hid ⟨fun j hj => by
              by_cases z : j = k
              · subst z; rw [HXY.out.1, HXY.out.2, c]
              · exact HK.out.1 j (by omega), HK.out.2.drewN _⟩⟩
          case measure => simp [RowKit.intOf]; omega
        · have q : eqB x y = false := eqB_no c
          rw [q] at e
          go_wp2_with fail
          go_quiet (fail)
          go_wp2
          go_ret
          exact ⟨rfl, HK.out.2.drewN _⟩
      · exfalso
        refine HE.out (List.ext_getElem? fun j => ?_)
        by_cases z : j < k
        · exact HK.out.1 j z
        · rw [List.getElem?_eq_none (by rw [HN.out]; omega), List.getElem?_eq_none (by rw [HM.out]; omega)]
  · exact same_len base1 base2 cap1 cap2 _ _ w hl
end Go.Proofs.Ytllkokfaodpfiaa
