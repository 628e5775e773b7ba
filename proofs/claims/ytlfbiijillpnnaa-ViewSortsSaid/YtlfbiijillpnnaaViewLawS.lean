/-
  Package view: the law ViewSorts.
-/
import Derived.Test.YtlfbiijillpnnaaViewLawD
import Derived.Test.YtlfbiijillpnnaaViewMath2
namespace Go.Proofs.Ytlfbiijillpnnaa
open Go.RowKit Go.Lib

set_option maxRecDepth 100000 in
set_option maxHeartbeats 1000000 in
theorem vsl_long (AW : VAwake) (b1 : Option Addr) (c1 n1 : Nat) (w : World) (hl : (100 : Int) < (n1 : Int)) : Calls Try.prog 5 #[.slice b1 n1 c1] w fun e w' => e = .returned (.bool true) ∧ Kep w.heap.size w w' := by
  replace AW := Lib.hid AW
  go_enter Try.func5, Try.ntmps5
  go_wp2_with (first
    | ((with_reducible refine (AW.out _).mono ?_); rintro e w2 ⟨rfl, k2⟩; have K2 := Lib.hid (K1.out.next k2))
    | ((with_reducible refine (AW.out _).mono ?_); rintro e w1 ⟨rfl, k1⟩; have K1 := Lib.hid k1))
  go_ret
  exact ⟨rfl, K2.out⟩
/-- The program's sorting of a list. -/
abbrev VP (w : World) (v : Value) (c : Int) (A : List Bd) : Prop := ∀ w', Kep w.heap.size w w' → Calls Try.prog 9 #[v] w' fun e w2 => ∃ b' c', e = .returned (.tuple #[.slice b' A.length c', .int .i64 c]) ∧ Lst w2 (.slice b' A.length c') A ∧ Kep w'.heap.size w' w2
theorem vp_of (O : VOps) {w : World} {v : Value} {L : List Bd} (h : Lst w v L) (f : Fit L) (hl : L.length ≤ 1000000) : VP w v (sortE L) (sortL L) := fun w' g => (O.sort v L w' (h.kep g) f hl).mono fun _ _ ⟨v', h1, h2, h3⟩ => by
  obtain ⟨b, c, rfl⟩ := h2.1.shape
  exact ⟨b, c, h1, h2.1, h3⟩
set_option maxRecDepth 100000 in
set_option maxHeartbeats 1000000 in
theorem vsl_bad (AW : VAwake) (b1 : Option Addr) (c1 n1 : Nat) (w : World) (hs : (n1 : Int) ≤ 100) (e1 : Int) (h1 : (e1 != 0) = true) (S1 : VP w (.slice b1 n1 c1) e1 []) : Calls Try.prog 5 #[.slice b1 n1 c1] w fun e w' => e = .returned (.bool true) ∧ Kep w.heap.size w w' := by
  replace AW := Lib.hid AW
  replace S1 : Hid (∀ w', Kep w.heap.size w w' → Calls Try.prog 9 #[.slice b1 n1 c1] w' fun e w2 => ∃ b' c', e = .returned (.tuple #[.slice b' 0 c', .int .i64 e1]) ∧ Lst w2 (.slice b' 0 c') [] ∧ Kep w'.heap.size w' w2) := Lib.hid S1
  go_enter Try.func5, Try.ntmps5
  go_wp2_with (first
    | ((with_reducible refine (AW.out _).mono ?_); rintro e w1 ⟨rfl, k1⟩; have K1 := Lib.hid k1; clear k1)
    | ((with_reducible refine (S1.out _ K1.out).mono ?_); rintro e w2 ⟨b3, c3, rfl, l3, k2⟩; have K2 := Lib.hid (K1.out.next k2); clear k2 l3))
  go_ret
  exact ⟨rfl, K2.out⟩
set_option maxRecDepth 100000 in
set_option maxHeartbeats 4000000 in
theorem vsl_main (AW : VAwake) (O : VOps) (b1 : Option Addr) (c1 : Nat) (w : World) (L : List Bd) (h : Lst w (.slice b1 L.length c1) L) (f : Fit L) (hs : L.length ≤ 100) (he : sortE L = 0) : Calls Try.prog 5 #[.slice b1 L.length c1] w fun e w' => e = .returned (.bool true) ∧ Kep w.heap.size w w' := by
  obtain ⟨A, hA⟩ : ∃ A, A = sortL L := ⟨_, rfl⟩
  have hl : A.length = L.length := by rw [hA, (sortE_zero he).2.2]; exact (sortE_zero he).2.1
  have a1 := sortL_asc L
  have fA := sortL_fits f
  have sv := sort_view a1.1 (sorted_each he)
  have ck := sorted_check he
  have AL := Lib.hid (fun x (hx : x ∈ L) => at_of_mem a1.1 (sortL_all he hx))
  have S1 := vp_of O h f (by omega)
  have S2 := fun v w (h : Lst w v (sortL L)) => vp_of O h fA (by omega) w (Kep.refl _ _)
  have CP := fun v w (h : Lst w v (sortL L)) => O.check v (sortL L) w h fA (by omega)
  have FN : ∀ (v : Value) (w : World) (j : Nat) (x : Bd), Lst w v (sortL L) → lessK (sortL L) x.k = j → look (sortL L) x.k = some x → Fits x → Calls Try.prog 14 #[v, .int .u32 x.k] w fun e w' => e = .returned (.tuple #[.int .i64 j, .bool true]) ∧ Kep w.heap.size w w' := fun v w j x h h1 h2 h3 => by
    have := O.find v (sortL L) x.k w h fA (by omega) a1.1 h3.1
    rw [h1, h2] at this
    exact this
  rw [sv.1, sv.2] at S2
  rw [ck] at CP
  rw [he] at S1
  rw [← hA] at S1 S2 CP FN AL
  have SM := Lib.hid (fun v1 v2 w (h1 : Lst w v1 A) (h2 : Lst w v2 A) => same_any v1 v2 A w h1 h2 (by omega))
  obtain ⟨n, hn⟩ : ∃ n, n = L.length := ⟨_, rfl⟩
  rw [← hn] at hl hs h S1 ⊢
  unfold VP at S1
  rw [hl] at S1 S2
  have HN := Lib.hid hn.symm
  have HA := Lib.hid hl
  have H := Lib.hid h
  have FL := Lib.hid f
  have hs' : (n : Int) ≤ 100 := by omega
  have nn : ((n : Int) != (n : Int)) = false := by simp
  replace AW := Lib.hid AW
  replace S1 := Lib.hid S1
  replace S2 := Lib.hid S2
  replace CP := Lib.hid CP
  replace FN := Lib.hid FN
  clear O hA hl a1 fA sv ck he h f hn
  go_enter Try.func5, Try.ntmps5
  go_wp2_with (first
    | ((with_reducible refine (AW.out _).mono ?_); rintro e w1 ⟨rfl, k1⟩; have K1 := Lib.hid k1; clear k1)
    | ((with_reducible refine (S1.out _ K1.out).mono ?_); rintro e w2 ⟨b3, c3, rfl, l3, k2⟩; have K2 := Lib.hid (K1.out.next k2); have L2 := Lib.hid l3; clear k2 l3)
    | ((with_reducible refine (CP.out _ _ L2.out).mono ?_); rintro e w3 ⟨rfl, k3⟩; have K3 := Lib.hid (K2.out.next k3); have L3 := Lib.hid (L2.out.kep k3); have H3 := Lib.hid (H.out.kep (K2.out.next k3)); clear k3))
  go_loopw [5] (fun i wr => ∃ k : Nat, k ≤ n ∧ i = .int .i64 k ∧ Hid (Kep w3.heap.size w3 wr)) (fun i _ => n - (RowKit.intOf i).toNat)
  case atStart => exact ⟨0, Nat.zero_le _, rfl, Lib.hid (Kep.refl _ _)⟩
  case round =>
    obtain ⟨k, hk, rfl, HR⟩ := hrel
    by_cases hlt : k < n
    · have hx : L[k]? = some (L[k]'(by rw [HN.out]; exact hlt)) := List.getElem?_eq_getElem _
      generalize L[k]'(by rw [HN.out]; exact hlt) = x at hx
      obtain ⟨j, hj, h1, h2⟩ := AL.out x (List.mem_of_getElem? hx)
      have hjn : j < n := by have := (List.getElem?_eq_some_iff.1 hj).1; rw [HA.out] at this; exact this
      have i0 : (0 : Int) ≤ (j : Int) := Int.natCast_nonneg _
      have i1 : (j : Int) < (n : Int) := by omega
      have i2 : (0 : Int) ≤ (k : Int) := Int.natCast_nonneg _
      have i3 : (k : Int) < (n : Int) := by omega
      have C := Lib.hid (FN.out _ wr j x (L3.out.kep HR.out) h1 h2 (FL.out x (List.mem_of_getElem? hx)))
      obtain ⟨g1, off1, hb1, hc1⟩ := Lst.at_ (H3.out.kep HR.out) hx
      obtain ⟨g2, off2, hb2, hc2⟩ := Lst.at_ (L3.out.kep HR.out) hj
      subst hb1
      subst hb2
      have x0 : wr.cell? ⟨g1, off1 + k * 10, none⟩ = some (.int .u32 x.k) := hc1 0 (by omega)
      have HC := Lib.hid (And.intro hc1 hc2)
      have e := body_cmp x x
      have q : eqB x x = true := eqB_iff.2 rfl
      rw [q] at e
      clear hc1 hc2 hx hj h1 h2 q
      go_wp2_with ((with_reducible refine (C.out).mono ?_); rintro e w5 ⟨rfl, k5⟩; obtain ⟨x0, x1, x2, x3, x4, x5, x6, x7, x8, x9⟩ := old_cells k5 HC.out.1; obtain ⟨y0, y1, y2, y3, y4, y5, y6, y7, y8, y9⟩ := old_cells k5 HC.out.2; have K5 := Lib.hid (HR.out.next k5); clear k5)
      go_quiet (fail)
      go_wp2_with fail
      go_roundw
      case rel => exact ⟨k + 1, by omega, by go_num, Lib.hid (K5.out.drewN _)⟩
      case measure => simp [RowKit.intOf]; omega
    · have LR := Lib.hid (L3.out.kep HR.out)
      go_wp2_with (first
        | ((with_reducible refine (S2.out _ _ LR.out).mono ?_); rintro e w6 ⟨b8, c8, rfl, l8, k6⟩; have K6 := Lib.hid (HR.out.next k6); have L6 := Lib.hid (LR.out.kep k6); have L68 := Lib.hid l8; clear k6 l8)
        | ((with_reducible refine (SM.out _ _ _ L6.out L68.out).mono ?_); rintro e w7 ⟨rfl, k7⟩; have K7 := Lib.hid (K6.out.next k7); clear k7))
      go_ret
      exact ⟨rfl, K3.out.next K7.out⟩
/-- The law ViewSorts. -/
theorem vsl_all (AW : VAwake) (O : VOps) (v1 : Value) (L : List Bd) (w : World) (h1 : Lst w v1 L) (f1 : Fit L) : Calls Try.prog 5 #[v1] w fun e w' => e = .returned (.bool true) ∧ Kep w.heap.size w w' := by
  obtain ⟨b1, c1, rfl⟩ := h1.shape
  by_cases l1 : 100 < L.length
  · exact vsl_long AW b1 c1 _ w (by omega)
  by_cases e1 : sortE L = 0
  · exact vsl_main AW O b1 c1 w L h1 f1 (by omega) e1
  · have S1 := vp_of O h1 f1 (by omega)
    rw [sortE_nil e1] at S1
    exact vsl_bad AW b1 c1 _ w (by omega) _ (bne_iff_ne.2 e1) S1
end Go.Proofs.Ytlfbiijillpnnaa
