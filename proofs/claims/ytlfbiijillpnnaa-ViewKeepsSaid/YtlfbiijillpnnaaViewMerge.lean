/-
  Package view: two views gone through side by side, with the functions that Diff and Apply call.
-/
import Derived.Test.YtlfbiijillpnnaaViewOps
import Derived.Test.YtlfbiijillpnnaaViewOnce
import Derived.Deep.QuietTactic
import Derived.BigQuiet
import Derived.StillTailTactics
namespace Go.Proofs.Ytlfbiijillpnnaa
open Go.RowKit Go.Lib

set_option maxRecDepth 100000 in
set_option maxHeartbeats 4000000 in
theorem merge_d (A B : List Bd) (b1 b2 : Option Addr) (c1 c2 : Nat) (g0 : Nat) (w w1 : World) (h1 : Lst w (.slice b1 A.length c1) A) (h2 : Lst w (.slice b2 B.length c2) B) (l1 : A.length ≤ 1000000) (l2 : B.length ≤ 1000000) (hA : Asc A) (hB : Asc B)
    (I : Nat → Nat → World → Prop) (KP : Hid (∀ i j w', I i j w' → Kep w.heap.size w w')) (DR : Hid (∀ i j w' n, I i j w' → I i j (w'.drewN n)))
    (C1 : Hid (∀ i j (x : Bd) w', A[i]? = some x → look B x.k = none → I i j w' → Calls Try.prog 30 #[.agg #[.int .u32 x.k, .int .i32 x.r, .int .i32 x.ax, .int .i32 x.ay, .int .i32 x.m, .int .i32 x.o, .int .i32 x.px, .int .i32 x.py, .int .i32 x.vx, .int .i32 x.vy], .pointer (some ⟨g0, 0, none⟩)] w' fun e w2 => e = .returned (.tuple #[]) ∧ I (i + 1) j w2))
    (C2 : Hid (∀ i j (y : Bd) w', B[j]? = some y → look A y.k = none → I i j w' → Calls Try.prog 31 #[.agg #[.int .u32 y.k, .int .i32 y.r, .int .i32 y.ax, .int .i32 y.ay, .int .i32 y.m, .int .i32 y.o, .int .i32 y.px, .int .i32 y.py, .int .i32 y.vx, .int .i32 y.vy], .pointer (some ⟨g0, 0, none⟩)] w' fun e w2 => e = .returned (.tuple #[]) ∧ I i (j + 1) w2))
    (C3 : Hid (∀ i j (x y : Bd) w', A[i]? = some x → B[j]? = some y → x.k = y.k → look B x.k = some y → I i j w' → Calls Try.prog 32 #[.agg #[.int .u32 x.k, .int .i32 x.r, .int .i32 x.ax, .int .i32 x.ay, .int .i32 x.m, .int .i32 x.o, .int .i32 x.px, .int .i32 x.py, .int .i32 x.vx, .int .i32 x.vy], .agg #[.int .u32 y.k, .int .i32 y.r, .int .i32 y.ax, .int .i32 y.ay, .int .i32 y.m, .int .i32 y.o, .int .i32 y.px, .int .i32 y.py, .int .i32 y.vx, .int .i32 y.vy], .pointer (some ⟨g0, 0, none⟩)] w' fun e w2 => e = .returned (.tuple #[]) ∧ I (i + 1) (j + 1) w2))
    (h0 : I 0 0 w1) :
    Calls Try.prog 33 #[.slice b1 A.length c1, .slice b2 B.length c2, .func (.func 30) #[] #[.pointer (some ⟨g0, 0, none⟩)], .func (.func 31) #[] #[.pointer (some ⟨g0, 0, none⟩)], .func (.func 32) #[] #[.pointer (some ⟨g0, 0, none⟩)]] w1 fun e w2 => e = .returned (.tuple #[]) ∧ I A.length B.length w2 := by
  obtain ⟨n1, hn1⟩ : ∃ n, n = A.length := ⟨_, rfl⟩
  obtain ⟨n2, hn2⟩ : ∃ n, n = B.length := ⟨_, rfl⟩
  rw [← hn1] at h1 l1 ⊢
  rw [← hn2] at h2 l2 ⊢
  have HN1 := Lib.hid hn1.symm
  have HN2 := Lib.hid hn2.symm
  have H1 := Lib.hid h1
  have H2 := Lib.hid h2
  have HA := Lib.hid hA
  have HB := Lib.hid hB
  have H0 := Lib.hid h0
  clear hn1 hn2 h1 h2 hA hB h0
  go_enter Try.func33, Try.ntmps33
  go_wp2
  go_loopw [10, 11] (fun s t wr => ∃ i j : Nat, i ≤ n1 ∧ j ≤ n2 ∧ s = .int .i64 i ∧ t = .int .i64 j ∧ Hid (Mg A B i j ∧ I i j wr)) (fun s t _ => (n1 - (RowKit.intOf s).toNat) + (n2 - (RowKit.intOf t).toNat))
  case atStart => exact ⟨0, 0, Nat.zero_le _, Nat.zero_le _, rfl, rfl, Lib.hid ⟨mg_start A B, H0.out⟩⟩
  case round =>
    obtain ⟨i, j, hin, hjn, rfl, rfl, HK⟩ := hrel
    by_cases hi : i < n1
    · by_cases hj : j < n2
      · have hx : A[i]? = some (A[i]'(by rw [HN1.out]; exact hi)) := List.getElem?_eq_getElem _
        generalize A[i]'(by rw [HN1.out]; exact hi) = x at hx
        obtain ⟨g1, off1, hb1, hc1⟩ := Lst.at_ (H1.out.kep (KP.out _ _ _ HK.out.2)) hx
        subst hb1
        obtain ⟨x0, x1, x2, x3, x4, x5, x6, x7, x8, x9⟩ := old_cells (Kep.refl _ _) hc1
        have i0 : (0 : Int) ≤ (i : Int) := Int.natCast_nonneg _
        have i1 : (i : Int) < (n1 : Int) := by omega
        have hy : B[j]? = some (B[j]'(by rw [HN2.out]; exact hj)) := List.getElem?_eq_getElem _
        generalize B[j]'(by rw [HN2.out]; exact hj) = y at hy
        obtain ⟨g2, off2, hb2, hc2⟩ := Lst.at_ (H2.out.kep (KP.out _ _ _ HK.out.2)) hy
        subst hb2
        obtain ⟨y0, y1, y2, y3, y4, y5, y6, y7, y8, y9⟩ := old_cells (Kep.refl _ _) hc2
        have j0 : (0 : Int) ≤ (j : Int) := Int.natCast_nonneg _
        have j1 : (j : Int) < (n2 : Int) := by omega
        have HXY := Lib.hid (And.intro hx hy)
        have HC := Lib.hid (And.intro hc1 hc2)
        have ej : ((j : Int) == (n2 : Int)) = false := beq_eq_false_iff_ne.2 (by omega)
        have ei : ((i : Int) == (n1 : Int)) = false := beq_eq_false_iff_ne.2 (by omega)
        obtain ⟨xk, hxk⟩ : ∃ k, k = x.k := ⟨_, rfl⟩
        obtain ⟨yk, hyk⟩ : ∃ k, k = y.k := ⟨_, rfl⟩
        have HX := Lib.hid hxk
        have HY := Lib.hid hyk
        have cX := hxk.symm
        have cY := hyk.symm
        clear hc1 hc2 hx hy
        rcases Int.lt_trichotomy xk yk with c | c | c
        · have M := Lib.hid (mg_a HB.out HK.out.1 HXY.out.1 (fun y' h => by rw [HXY.out.2] at h; injection h with h; subst h; omega))
          have C := Lib.hid (fun w' (h : I i j w') => C1.out i j x w' HXY.out.1 M.out.1 h)
          rw [cX] at x0 C
          rw [cY] at y0
          clear cX cY hxk hyk
          go_wp2_with fail
          go_quiet (fail)
          go_wp2_with ((with_reducible refine (C.out _ (DR.out _ _ _ _ HK.out.2)).mono ?_); rintro e w5 ⟨rfl, h5⟩; have H5 := Lib.hid h5; clear h5)
          go_roundw
          case rel => exact ⟨i + 1, j, by omega, by omega, by go_num, rfl, Lib.hid ⟨M.out.2, H5.out⟩⟩
          case measure => simp [RowKit.intOf]; omega
        · have M := Lib.hid (mg_c (i := i) (j := j) HA.out HB.out HXY.out.1 HXY.out.2 (by omega))
          have C := Lib.hid (fun w' (h : I i j w') => C3.out i j x y w' HXY.out.1 HXY.out.2 (by rw [cX, cY]; exact c) M.out.1 h)
          rw [cX] at x0 C
          rw [cY] at y0 C
          clear cX cY hxk hyk
          have c2 : ¬ xk < yk := by omega
          have c3 : ¬ yk < xk := by omega
          have d2 : decide (xk < yk) = false := decide_eq_false c2
          have d3 : decide (yk < xk) = false := decide_eq_false c3
          replace c := Lib.hid c
          go_wp2_with fail
          go_quiet (fail)
          go_wp2_with fail
          go_quiet (fail)
          go_wp2_with fail
          generalize hwz : World.drewN (World.drewN wr _) _ = wz
          have IZ : Hid (I i j wz) := Lib.hid (by rw [← hwz]; exact DR.out _ _ _ _ (DR.out _ _ _ _ HK.out.2))
          have KZ : Hid (Kep wr.heap.size wr wz) := Lib.hid (by rw [← hwz]; exact ((Kep.refl _ _).drewN _).drewN _)
          have I1 : Hid (I i j wz.drew) := Lib.hid (DR.out _ _ _ 1 IZ.out)
          clear hwz x0 x1 x2 x3 x4 x5 x6 x7 x8 x9 y0 y1 y2 y3 y4 y5 y6 y7 y8 y9
          obtain ⟨x0, x1, x2, x3, x4, x5, x6, x7, x8, x9⟩ := old_cells KZ.out HC.out.1
          obtain ⟨y0, y1, y2, y3, y4, y5, y6, y7, y8, y9⟩ := old_cells KZ.out HC.out.2
          rw [← HX.out] at x0
          rw [← HY.out] at y0
          go_still_tail 9, (by kernel_rfl)
          go_wp2_with ((with_reducible refine (C.out _ I1.out).mono ?_); rintro e w5 ⟨rfl, h5⟩; have H5 := Lib.hid h5; clear h5)
          go_roundw
          case rel => exact ⟨i + 1, j + 1, by omega, by omega, by go_num, by go_num, Lib.hid ⟨M.out.2.2, H5.out⟩⟩
          case measure => simp [RowKit.intOf]; omega
        · have M := Lib.hid (mg_b HA.out HK.out.1 HXY.out.2 (fun x' h => by rw [HXY.out.1] at h; injection h with h; subst h; omega))
          have C := Lib.hid (fun w' (h : I i j w') => C2.out i j y w' HXY.out.2 M.out.1 h)
          rw [cX] at x0
          rw [cY] at y0 C
          clear cX cY hxk hyk
          have c2 : ¬ xk < yk := by omega
          have d2 : decide (xk < yk) = false := decide_eq_false c2
          go_wp2_with fail
          go_quiet (fail)
          go_wp2_with fail
          go_quiet (fail)
          go_wp2_with ((with_reducible refine (C.out _ (DR.out _ _ _ _ HK.out.2)).mono ?_); rintro e w5 ⟨rfl, h5⟩; have H5 := Lib.hid h5; clear h5)
          go_roundw
          case rel => exact ⟨i, j + 1, by omega, by omega, rfl, by go_num, Lib.hid ⟨M.out.2, H5.out⟩⟩
          case measure => simp [RowKit.intOf]; omega
      · have e : j = n2 := by omega
        subst e
        have hx : A[i]? = some (A[i]'(by rw [HN1.out]; exact hi)) := List.getElem?_eq_getElem _
        generalize A[i]'(by rw [HN1.out]; exact hi) = x at hx
        obtain ⟨g1, off1, hb1, hc1⟩ := Lst.at_ (H1.out.kep (KP.out _ _ _ HK.out.2)) hx
        subst hb1
        obtain ⟨x0, x1, x2, x3, x4, x5, x6, x7, x8, x9⟩ := old_cells (Kep.refl _ _) hc1
        have i0 : (0 : Int) ≤ (i : Int) := Int.natCast_nonneg _
        have i1 : (i : Int) < (n1 : Int) := by omega
        have ej : ((j : Int) == (j : Int)) = true := by simp
        have M := Lib.hid (mg_a HB.out HK.out.1 hx (fun y' h => by have := (List.getElem?_eq_some_iff.1 h).1; rw [HN2.out] at this; omega))
        have C := Lib.hid (fun w' (h : I i j w') => C1.out i j x w' hx M.out.1 h)
        clear hc1 hx
        go_wp2_with fail
        go_quiet (fail)
        go_wp2_with ((with_reducible refine (C.out _ (DR.out _ _ _ _ HK.out.2)).mono ?_); rintro e w5 ⟨rfl, h5⟩; have H5 := Lib.hid h5; clear h5)
        go_roundw
        case rel => exact ⟨i + 1, j, by omega, by omega, by go_num, rfl, Lib.hid ⟨M.out.2, H5.out⟩⟩
        case measure => simp [RowKit.intOf]; omega
    · have e : i = n1 := by omega
      subst e
      by_cases hj : j < n2
      · have hy : B[j]? = some (B[j]'(by rw [HN2.out]; exact hj)) := List.getElem?_eq_getElem _
        generalize B[j]'(by rw [HN2.out]; exact hj) = y at hy
        obtain ⟨g2, off2, hb2, hc2⟩ := Lst.at_ (H2.out.kep (KP.out _ _ _ HK.out.2)) hy
        subst hb2
        obtain ⟨y0, y1, y2, y3, y4, y5, y6, y7, y8, y9⟩ := old_cells (Kep.refl _ _) hc2
        have j0 : (0 : Int) ≤ (j : Int) := Int.natCast_nonneg _
        have j1 : (j : Int) < (n2 : Int) := by omega
        have ej : ((j : Int) == (n2 : Int)) = false := beq_eq_false_iff_ne.2 (by omega)
        have ei : ((i : Int) == (i : Int)) = true := by simp
        have di : decide ((i : Int) < (i : Int)) = false := decide_eq_false (by omega)
        have M := Lib.hid (mg_b HA.out HK.out.1 hy (fun x' h => by have := (List.getElem?_eq_some_iff.1 h).1; rw [HN1.out] at this; omega))
        have C := Lib.hid (fun w' (h : I i j w') => C2.out i j y w' hy M.out.1 h)
        clear hc2 hy
        go_wp2_with fail
        go_quiet (fail)
        go_wp2_with fail
        go_quiet (fail)
        go_wp2_with ((with_reducible refine (C.out _ (DR.out _ _ _ _ HK.out.2)).mono ?_); rintro e w5 ⟨rfl, h5⟩; have H5 := Lib.hid h5; clear h5)
        go_roundw
        case rel => exact ⟨i, j + 1, by omega, by omega, rfl, by go_num, Lib.hid ⟨M.out.2, H5.out⟩⟩
        case measure => simp [RowKit.intOf]; omega
      · have e : j = n2 := by omega
        subst e
        go_wp2
        go_end0
        exact ⟨rfl, HK.out.2⟩
set_option maxRecDepth 100000 in
set_option maxHeartbeats 4000000 in
theorem merge_p (A B : List Bd) (b1 b2 : Option Addr) (c1 c2 : Nat) (g0 g3 : Nat) (w w1 : World) (h1 : Lst w (.slice b1 A.length c1) A) (h2 : Lst w (.slice b2 B.length c2) B) (l1 : A.length ≤ 1000000) (l2 : B.length ≤ 1000000) (hA : Asc A) (hB : Asc B)
    (I : Nat → Nat → World → Prop) (KP : Hid (∀ i j w', I i j w' → Kep w.heap.size w w')) (DR : Hid (∀ i j w' n, I i j w' → I i j (w'.drewN n)))
    (C1 : Hid (∀ i j (x : Bd) w', A[i]? = some x → look B x.k = none → I i j w' → Calls Try.prog 34 #[.agg #[.int .u32 x.k, .int .i32 x.r, .int .i32 x.ax, .int .i32 x.ay, .int .i32 x.m, .int .i32 x.o, .int .i32 x.px, .int .i32 x.py, .int .i32 x.vx, .int .i32 x.vy], .pointer (some ⟨g0, 0, none⟩), .pointer (some ⟨g3, 0, none⟩)] w' fun e w2 => e = .returned (.tuple #[]) ∧ I (i + 1) j w2))
    (C2 : Hid (∀ i j (y : Bd) w', B[j]? = some y → look A y.k = none → I i j w' → Calls Try.prog 36 #[.agg #[.int .u32 y.k, .int .i32 y.r, .int .i32 y.ax, .int .i32 y.ay, .int .i32 y.m, .int .i32 y.o, .int .i32 y.px, .int .i32 y.py, .int .i32 y.vx, .int .i32 y.vy], .pointer (some ⟨g0, 0, none⟩), .pointer (some ⟨g3, 0, none⟩)] w' fun e w2 => e = .returned (.tuple #[]) ∧ I i (j + 1) w2))
    (C3 : Hid (∀ i j (x y : Bd) w', A[i]? = some x → B[j]? = some y → x.k = y.k → look B x.k = some y → I i j w' → Calls Try.prog 37 #[.agg #[.int .u32 x.k, .int .i32 x.r, .int .i32 x.ax, .int .i32 x.ay, .int .i32 x.m, .int .i32 x.o, .int .i32 x.px, .int .i32 x.py, .int .i32 x.vx, .int .i32 x.vy], .agg #[.int .u32 y.k, .int .i32 y.r, .int .i32 y.ax, .int .i32 y.ay, .int .i32 y.m, .int .i32 y.o, .int .i32 y.px, .int .i32 y.py, .int .i32 y.vx, .int .i32 y.vy], .pointer (some ⟨g0, 0, none⟩), .pointer (some ⟨g3, 0, none⟩)] w' fun e w2 => e = .returned (.tuple #[]) ∧ I (i + 1) (j + 1) w2))
    (h0 : I 0 0 w1) :
    Calls Try.prog 33 #[.slice b1 A.length c1, .slice b2 B.length c2, .func (.func 34) #[] #[.pointer (some ⟨g0, 0, none⟩), .pointer (some ⟨g3, 0, none⟩)], .func (.func 36) #[] #[.pointer (some ⟨g0, 0, none⟩), .pointer (some ⟨g3, 0, none⟩)], .func (.func 37) #[] #[.pointer (some ⟨g0, 0, none⟩), .pointer (some ⟨g3, 0, none⟩)]] w1 fun e w2 => e = .returned (.tuple #[]) ∧ I A.length B.length w2 := by
  obtain ⟨n1, hn1⟩ : ∃ n, n = A.length := ⟨_, rfl⟩
  obtain ⟨n2, hn2⟩ : ∃ n, n = B.length := ⟨_, rfl⟩
  rw [← hn1] at h1 l1 ⊢
  rw [← hn2] at h2 l2 ⊢
  have HN1 := Lib.hid hn1.symm
  have HN2 := Lib.hid hn2.symm
  have H1 := Lib.hid h1
  have H2 := Lib.hid h2
  have HA := Lib.hid hA
  have HB := Lib.hid hB
  have H0 := Lib.hid h0
  clear hn1 hn2 h1 h2 hA hB h0
  go_enter Try.func33, Try.ntmps33
  go_wp2
  go_loopw [10, 11] (fun s t wr => ∃ i j : Nat, i ≤ n1 ∧ j ≤ n2 ∧ s = .int .i64 i ∧ t = .int .i64 j ∧ Hid (Mg A B i j ∧ I i j wr)) (fun s t _ => (n1 - (RowKit.intOf s).toNat) + (n2 - (RowKit.intOf t).toNat))
  case atStart => exact ⟨0, 0, Nat.zero_le _, Nat.zero_le _, rfl, rfl, Lib.hid ⟨mg_start A B, H0.out⟩⟩
  case round =>
    obtain ⟨i, j, hin, hjn, rfl, rfl, HK⟩ := hrel
    by_cases hi : i < n1
    · by_cases hj : j < n2
      · have hx : A[i]? = some (A[i]'(by rw [HN1.out]; exact hi)) := List.getElem?_eq_getElem _
        generalize A[i]'(by rw [HN1.out]; exact hi) = x at hx
        obtain ⟨g1, off1, hb1, hc1⟩ := Lst.at_ (H1.out.kep (KP.out _ _ _ HK.out.2)) hx
        subst hb1
        obtain ⟨x0, x1, x2, x3, x4, x5, x6, x7, x8, x9⟩ := old_cells (Kep.refl _ _) hc1
        have i0 : (0 : Int) ≤ (i : Int) := Int.natCast_nonneg _
        have i1 : (i : Int) < (n1 : Int) := by omega
        have hy : B[j]? = some (B[j]'(by rw [HN2.out]; exact hj)) := List.getElem?_eq_getElem _
        generalize B[j]'(by rw [HN2.out]; exact hj) = y at hy
        obtain ⟨g2, off2, hb2, hc2⟩ := Lst.at_ (H2.out.kep (KP.out _ _ _ HK.out.2)) hy
        subst hb2
        obtain ⟨y0, y1, y2, y3, y4, y5, y6, y7, y8, y9⟩ := old_cells (Kep.refl _ _) hc2
        have j0 : (0 : Int) ≤ (j : Int) := Int.natCast_nonneg _
        have j1 : (j : Int) < (n2 : Int) := by omega
        have HXY := Lib.hid (And.intro hx hy)
        have HC := Lib.hid (And.intro hc1 hc2)
        have ej : ((j : Int) == (n2 : Int)) = false := beq_eq_false_iff_ne.2 (by omega)
        have ei : ((i : Int) == (n1 : Int)) = false := beq_eq_false_iff_ne.2 (by omega)
        obtain ⟨xk, hxk⟩ : ∃ k, k = x.k := ⟨_, rfl⟩
        obtain ⟨yk, hyk⟩ : ∃ k, k = y.k := ⟨_, rfl⟩
        have HX := Lib.hid hxk
        have HY := Lib.hid hyk
        have cX := hxk.symm
        have cY := hyk.symm
        clear hc1 hc2 hx hy
        rcases Int.lt_trichotomy xk yk with c | c | c
        · have M := Lib.hid (mg_a HB.out HK.out.1 HXY.out.1 (fun y' h => by rw [HXY.out.2] at h; injection h with h; subst h; omega))
          have C := Lib.hid (fun w' (h : I i j w') => C1.out i j x w' HXY.out.1 M.out.1 h)
          rw [cX] at x0 C
          rw [cY] at y0
          clear cX cY hxk hyk
          go_wp2_with fail
          go_quiet (fail)
          go_wp2_with ((with_reducible refine (C.out _ (DR.out _ _ _ _ HK.out.2)).mono ?_); rintro e w5 ⟨rfl, h5⟩; have H5 := Lib.hid h5; clear h5)
          go_roundw
          case rel => exact ⟨i + 1, j, by omega, by omega, by go_num, rfl, Lib.hid ⟨M.out.2, H5.out⟩⟩
          case measure => simp [RowKit.intOf]; omega
        · have M := Lib.hid (mg_c (i := i) (j := j) HA.out HB.out HXY.out.1 HXY.out.2 (by omega))
          have C := Lib.hid (fun w' (h : I i j w') => C3.out i j x y w' HXY.out.1 HXY.out.2 (by rw [cX, cY]; exact c) M.out.1 h)
          rw [cX] at x0 C
          rw [cY] at y0 C
          clear cX cY hxk hyk
          have c2 : ¬ xk < yk := by omega
          have c3 : ¬ yk < xk := by omega
          have d2 : decide (xk < yk) = false := decide_eq_false c2
          have d3 : decide (yk < xk) = false := decide_eq_false c3
          replace c := Lib.hid c
          go_wp2_with fail
          go_quiet (fail)
          go_wp2_with fail
          go_quiet (fail)
          go_wp2_with fail
          generalize hwz : World.drewN (World.drewN wr _) _ = wz
          have IZ : Hid (I i j wz) := Lib.hid (by rw [← hwz]; exact DR.out _ _ _ _ (DR.out _ _ _ _ HK.out.2))
          have KZ : Hid (Kep wr.heap.size wr wz) := Lib.hid (by rw [← hwz]; exact ((Kep.refl _ _).drewN _).drewN _)
          have I1 : Hid (I i j wz.drew) := Lib.hid (DR.out _ _ _ 1 IZ.out)
          clear hwz x0 x1 x2 x3 x4 x5 x6 x7 x8 x9 y0 y1 y2 y3 y4 y5 y6 y7 y8 y9
          obtain ⟨x0, x1, x2, x3, x4, x5, x6, x7, x8, x9⟩ := old_cells KZ.out HC.out.1
          obtain ⟨y0, y1, y2, y3, y4, y5, y6, y7, y8, y9⟩ := old_cells KZ.out HC.out.2
          rw [← HX.out] at x0
          rw [← HY.out] at y0
          go_still_tail 9, (by kernel_rfl)
          go_wp2_with ((with_reducible refine (C.out _ I1.out).mono ?_); rintro e w5 ⟨rfl, h5⟩; have H5 := Lib.hid h5; clear h5)
          go_roundw
          case rel => exact ⟨i + 1, j + 1, by omega, by omega, by go_num, by go_num, Lib.hid ⟨M.out.2.2, H5.out⟩⟩
          case measure => simp [RowKit.intOf]; omega
        · have M := Lib.hid (mg_b HA.out HK.out.1 HXY.out.2 (fun x' h => by rw [HXY.out.1] at h; injection h with h; subst h; omega))
          have C := Lib.hid (fun w' (h : I i j w') => C2.out i j y w' HXY.out.2 M.out.1 h)
          rw [cX] at x0
          rw [cY] at y0 C
          clear cX cY hxk hyk
          have c2 : ¬ xk < yk := by omega
          have d2 : decide (xk < yk) = false := decide_eq_false c2
          go_wp2_with fail
          go_quiet (fail)
          go_wp2_with fail
          go_quiet (fail)
          go_wp2_with ((with_reducible refine (C.out _ (DR.out _ _ _ _ HK.out.2)).mono ?_); rintro e w5 ⟨rfl, h5⟩; have H5 := Lib.hid h5; clear h5)
          go_roundw
          case rel => exact ⟨i, j + 1, by omega, by omega, rfl, by go_num, Lib.hid ⟨M.out.2, H5.out⟩⟩
          case measure => simp [RowKit.intOf]; omega
      · have e : j = n2 := by omega
        subst e
        have hx : A[i]? = some (A[i]'(by rw [HN1.out]; exact hi)) := List.getElem?_eq_getElem _
        generalize A[i]'(by rw [HN1.out]; exact hi) = x at hx
        obtain ⟨g1, off1, hb1, hc1⟩ := Lst.at_ (H1.out.kep (KP.out _ _ _ HK.out.2)) hx
        subst hb1
        obtain ⟨x0, x1, x2, x3, x4, x5, x6, x7, x8, x9⟩ := old_cells (Kep.refl _ _) hc1
        have i0 : (0 : Int) ≤ (i : Int) := Int.natCast_nonneg _
        have i1 : (i : Int) < (n1 : Int) := by omega
        have ej : ((j : Int) == (j : Int)) = true := by simp
        have M := Lib.hid (mg_a HB.out HK.out.1 hx (fun y' h => by have := (List.getElem?_eq_some_iff.1 h).1; rw [HN2.out] at this; omega))
        have C := Lib.hid (fun w' (h : I i j w') => C1.out i j x w' hx M.out.1 h)
        clear hc1 hx
        go_wp2_with fail
        go_quiet (fail)
        go_wp2_with ((with_reducible refine (C.out _ (DR.out _ _ _ _ HK.out.2)).mono ?_); rintro e w5 ⟨rfl, h5⟩; have H5 := Lib.hid h5; clear h5)
        go_roundw
        case rel => exact ⟨i + 1, j, by omega, by omega, by go_num, rfl, Lib.hid ⟨M.out.2, H5.out⟩⟩
        case measure => simp [RowKit.intOf]; omega
    · have e : i = n1 := by omega
      subst e
      by_cases hj : j < n2
      · have hy : B[j]? = some (B[j]'(by rw [HN2.out]; exact hj)) := List.getElem?_eq_getElem _
        generalize B[j]'(by rw [HN2.out]; exact hj) = y at hy
        obtain ⟨g2, off2, hb2, hc2⟩ := Lst.at_ (H2.out.kep (KP.out _ _ _ HK.out.2)) hy
        subst hb2
        obtain ⟨y0, y1, y2, y3, y4, y5, y6, y7, y8, y9⟩ := old_cells (Kep.refl _ _) hc2
        have j0 : (0 : Int) ≤ (j : Int) := Int.natCast_nonneg _
        have j1 : (j : Int) < (n2 : Int) := by omega
        have ej : ((j : Int) == (n2 : Int)) = false := beq_eq_false_iff_ne.2 (by omega)
        have ei : ((i : Int) == (i : Int)) = true := by simp
        have di : decide ((i : Int) < (i : Int)) = false := decide_eq_false (by omega)
        have M := Lib.hid (mg_b HA.out HK.out.1 hy (fun x' h => by have := (List.getElem?_eq_some_iff.1 h).1; rw [HN1.out] at this; omega))
        have C := Lib.hid (fun w' (h : I i j w') => C2.out i j y w' hy M.out.1 h)
        clear hc2 hy
        go_wp2_with fail
        go_quiet (fail)
        go_wp2_with fail
        go_quiet (fail)
        go_wp2_with ((with_reducible refine (C.out _ (DR.out _ _ _ _ HK.out.2)).mono ?_); rintro e w5 ⟨rfl, h5⟩; have H5 := Lib.hid h5; clear h5)
        go_roundw
        case rel => exact ⟨i, j + 1, by omega, by omega, rfl, by go_num, Lib.hid ⟨M.out.2, H5.out⟩⟩
        case measure => simp [RowKit.intOf]; omega
      · have e : j = n2 := by omega
        subst e
        go_wp2
        go_end0
        exact ⟨rfl, HK.out.2⟩
end Go.Proofs.Ytlfbiijillpnnaa
