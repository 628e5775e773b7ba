/-
  Package view: the law ViewDiff.
-/
import Derived.Test.YtlfbiijillpnnaaViewOps
namespace Go.Proofs.Ytlfbiijillpnnaa
open Go.RowKit Go.Lib

abbrev VAwake : Prop := ∀ w, Calls Try.prog 8 #[] w fun e w' => e = .returned (.bool true) ∧ Kep w.heap.size w w'
theorem same_b (v1 v2 : Value) (L M : List Bd) (w : World) (h1 : Lst w v1 L) (h2 : Lst w v2 M) (hm : L.length ≤ 1000000000) (z : Bool) (hz : z = true ↔ L = M) :
    Calls Try.prog 11 #[v1, v2] w fun e w' => e = .returned (.bool z) ∧ Kep w.heap.size w w' := by
  by_cases c : L = M
  · subst c; rw [hz.2 rfl]; exact same_any v1 v2 L w h1 h2 hm
  · have : z = false := by cases z with
      | false => rfl
      | true => exact absurd (hz.1 rfl) c
    rw [this]; exact same_ne v1 v2 L M w h1 h2 hm c
/-- Three cells of a struct. -/
def Bx (w : World) (b : Nat) (x0 x1 x2 : Value) : Prop := w.cell? ⟨b, 0, none⟩ = some x0 ∧ w.cell? ⟨b, 1, none⟩ = some x1 ∧ w.cell? ⟨b, 2, none⟩ = some x2
theorem Bx.kep {w w' : World} {b : Nat} {x0 x1 x2 : Value} (h : Bx w b x0 x1 x2) (k : Kep w.heap.size w w') : Bx w' b x0 x1 x2 := ⟨k.all h.1, k.all h.2.1, k.all h.2.2⟩
theorem Bx.made (w : World) (x0 x1 x2 : Value) (t : TypeId) : Bx (w.alloc (.cells #[x0, x1, x2] t)) w.heap.size x0 x1 x2 := by
  refine ⟨?_, ?_, ?_⟩ <;> (rw [World.cell?_alloc_at _ _ _ _ rfl]; rfl)
set_option maxRecDepth 100000 in
set_option maxHeartbeats 1000000 in
theorem vdl_long1 (AW : VAwake) (b1 b2 : Option Addr) (c1 c2 n1 n2 : Nat) (w : World) (hl : (100 : Int) < (n1 : Int)) : Calls Try.prog 4 #[.slice b1 n1 c1, .slice b2 n2 c2] w fun e w' => e = .returned (.bool true) ∧ Kep w.heap.size w w' := by
  replace AW := Lib.hid AW
  go_enter Try.func4, Try.ntmps4
  go_wp2_with (first
    | ((with_reducible refine (AW.out _).mono ?_); rintro e w2 ⟨rfl, k2⟩; have K2 := Lib.hid (K1.out.next k2))
    | ((with_reducible refine (AW.out _).mono ?_); rintro e w1 ⟨rfl, k1⟩; have K1 := Lib.hid k1))
  go_ret
  exact ⟨rfl, K2.out⟩
set_option maxRecDepth 100000 in
set_option maxHeartbeats 1000000 in
theorem vdl_long2 (AW : VAwake) (b1 b2 : Option Addr) (c1 c2 n1 n2 : Nat) (w : World) (hs : (n1 : Int) ≤ 100) (hl : (100 : Int) < (n2 : Int)) : Calls Try.prog 4 #[.slice b1 n1 c1, .slice b2 n2 c2] w fun e w' => e = .returned (.bool true) ∧ Kep w.heap.size w w' := by
  replace AW := Lib.hid AW
  go_enter Try.func4, Try.ntmps4
  go_wp2_with (first
    | ((with_reducible refine (AW.out _).mono ?_); rintro e w2 ⟨rfl, k2⟩; have K2 := Lib.hid (K1.out.next k2))
    | ((with_reducible refine (AW.out _).mono ?_); rintro e w1 ⟨rfl, k1⟩; have K1 := Lib.hid k1))
  go_ret
  exact ⟨rfl, K2.out⟩
/-- Of two lists that sort with these errors. -/
abbrev VS (w : World) (v : Value) (c : Int) (A : List Bd) : Prop := ∀ w', Kep w.heap.size w w' → Calls Try.prog 10 #[v] w' fun e w2 => ∃ v', e = .returned (.tuple #[v', .int .i64 c]) ∧ Lst w2 v' A ∧ Kep w'.heap.size w' w2
theorem vs_of {w : World} {v : Value} {L : List Bd} (h : Lst w v L) (hl : L.length ≤ 1000000) : VS w v (sortE L) (sortL L) := fun w' g => (rsort_any v L w' (h.kep g) hl).mono fun _ _ ⟨v', h1, h2, h3⟩ => ⟨v', h1, h2.1, h3⟩
set_option maxRecDepth 100000 in
set_option maxHeartbeats 1000000 in
theorem vdl_bad (AW : VAwake) (b1 b2 : Option Addr) (c1 c2 n1 n2 : Nat) (w : World) (hs1 : (n1 : Int) ≤ 100) (hs2 : (n2 : Int) ≤ 100) (e1 e2 : Int) (A B : List Bd) (S1 : VS w (.slice b1 n1 c1) e1 A) (S2 : VS w (.slice b2 n2 c2) e2 B) (hb : (e1 != 0) = true ∨ ((e1 != 0) = false ∧ (e2 != 0) = true)) :
    Calls Try.prog 4 #[.slice b1 n1 c1, .slice b2 n2 c2] w fun e w' => e = .returned (.bool true) ∧ Kep w.heap.size w w' := by
  replace AW := Lib.hid AW
  replace S1 := Lib.hid S1
  replace S2 := Lib.hid S2
  go_enter Try.func4, Try.ntmps4
  rcases hb with h1 | ⟨h1, h2⟩
  all_goals go_wp2_with (first
    | ((with_reducible refine (AW.out _).mono ?_); rintro e w1 ⟨rfl, k1⟩; have K1 := Lib.hid k1; clear k1)
    | ((with_reducible refine (S1.out _ K1.out).mono ?_); rintro e w2 ⟨v5, rfl, l5, k2⟩; have K2 := Lib.hid (K1.out.next k2); clear k2 l5)
    | ((with_reducible refine (S2.out _ K2.out).mono ?_); rintro e w3 ⟨v7, rfl, l7, k3⟩; have K3 := Lib.hid (K2.out.next k3); clear k3 l7))
  all_goals go_ret
  all_goals exact ⟨rfl, K3.out⟩
/-- The difference of two lists, its three parts written out. -/
abbrev VD (n0 n1 n2 : Nat) (A B : List Bd) (KA KR KC : List Int) : Prop := ∀ v5 v7 w, Lst w v5 A → Lst w v7 B → Calls Try.prog 18 #[v5, v7] w fun e w2 => ∃ b0 s0 b1 s1 b2 s2, e = .returned (.agg #[.slice b0 n0 s0, .slice b1 n1 s1, .slice b2 n2 s2]) ∧ (KLst w2 (.slice b0 n0 s0) KA ∧ KLst w2 (.slice b1 n1 s1) KR ∧ KLst w2 (.slice b2 n2 s2) KC) ∧ Kep w.heap.size w w2
theorem vd_of (O : VOps) {A B : List Bd} (fA : Fit A) (fB : Fit B) (lA : A.length ≤ 1000000) (lB : B.length ≤ 1000000) (hA : Asc A) (hB : Asc B) {n0 n1 n2 : Nat} {KA KR KC : List Int} (k0 : remL B A = KA) (k1 : remL A B = KR) (k2 : chgL A B = KC) (h0 : KA.length = n0) (h1 : KR.length = n1) (h2 : KC.length = n2) : VD n0 n1 n2 A B KA KR KC := by
  intro v5 v7 w l5 l7
  refine (O.diff v5 v7 A B w l5 l7 fA fB lA lB hA hB).mono ?_
  rintro e w2 ⟨v', rfl, ⟨x0, x1, x2, rfl, p0, p1, p2⟩, k⟩
  replace p0 : KLst w2 x0 KA := by have := p0; rw [show (diffC A B).add = KA from k0] at this; exact this
  replace p1 : KLst w2 x1 KR := by have := p1; rw [show (diffC A B).rem = KR from k1] at this; exact this
  replace p2 : KLst w2 x2 KC := by have := p2; rw [show (diffC A B).chg = KC from k2] at this; exact this
  obtain ⟨b0, s0, rfl⟩ := p0.shape
  obtain ⟨b1, s1, rfl⟩ := p1.shape
  obtain ⟨b2, s2, rfl⟩ := p2.shape
  rw [h0] at p0 ⊢
  rw [h1] at p1 ⊢
  rw [h2] at p2 ⊢
  exact ⟨b0, s0, b1, s1, b2, s2, rfl, ⟨p0, p1, p2⟩, k⟩
set_option maxRecDepth 100000 in
set_option maxHeartbeats 4000000 in
theorem vdl_main (AW : VAwake) (O : VOps) (b1 b2 : Option Addr) (c1 c2 n1 n2 : Nat) (w : World) (hs1 : (n1 : Int) ≤ 100) (hs2 : (n2 : Int) ≤ 100) (A B : List Bd) (S1 : VS w (.slice b1 n1 c1) 0 A) (S2 : VS w (.slice b2 n2 c2) 0 B) (fA : Fit A) (fB : Fit B) (lA : A.length ≤ 1000000) (lB : B.length ≤ 1000000) (hA : Asc A) (hB : Asc B)
    (q0 q1 q2 : Nat) (KA KR KC : List Int) (k0 : remL B A = KA) (k1 : remL A B = KR) (k2 : chgL A B = KC) (h0 : KA.length = q0) (h1 : KR.length = q1) (h2 : KC.length = q2) (z : Bool) (hz : z = true ↔ A = B)
    (hc : (((q0 : Int) == 0) = true ∧ ((q1 : Int) == 0) = true ∧ ((q2 : Int) == 0) = true ∧ z = true) ∨ (((q0 : Int) == 0) = false ∧ z = false) ∨ (((q0 : Int) == 0) = true ∧ ((q1 : Int) == 0) = false ∧ z = false) ∨ (((q0 : Int) == 0) = true ∧ ((q1 : Int) == 0) = true ∧ ((q2 : Int) == 0) = false ∧ z = false)) :
    Calls Try.prog 4 #[.slice b1 n1 c1, .slice b2 n2 c2] w fun e w' => e = .returned (.bool true) ∧ Kep w.heap.size w w' := by
  have D1 : Hid (VD q0 q1 q2 A B KA KR KC) := Lib.hid (vd_of O fA fB lA lB hA hB k0 k1 k2 h0 h1 h2)
  have D2 : Hid (VD q1 q0 q2 B A KR KA KC) := Lib.hid (vd_of O fB fA lB lA hB hA k1 k0 ((chg_comm hB hA).trans k2) h1 h0 h2)
  have AP := Lib.hid (fun v5 v7 x0 x1 x2 w (l5 : Lst w v5 A) (l7 : Lst w v7 B) (p0 : KLst w x0 KA) (p1 : KLst w x1 KR) (p2 : KLst w x2 KC) => O.apply v5 v7 (.agg #[x0, x1, x2]) A B w l5 l7 ⟨x0, x1, x2, rfl, (by rw [← k0] at p0; exact p0), (by rw [← k1] at p1; exact p1), (by rw [← k2] at p2; exact p2)⟩ fA fB lA lB hA hB)
  have m0 : KA.length ≤ 1000000000 := by rw [← k0]; have := remL_len B A B.length; rw [List.take_length] at this; omega
  have m1 : KR.length ≤ 1000000000 := by rw [← k1]; have := remL_len A B A.length; rw [List.take_length] at this; omega
  have m2 : KC.length ≤ 1000000000 := by rw [← k2]; have := chgL_len A B A.length; rw [List.take_length] at this; omega
  have SM := Lib.hid (fun v1 v2 w (h1 : Lst w v1 B) (h2 : Lst w v2 B) => same_any v1 v2 B w h1 h2 (by omega))
  have SB := Lib.hid (fun v1 v2 w (h1 : Lst w v1 A) (h2 : Lst w v2 B) => same_b v1 v2 A B w h1 h2 (by omega) z hz)
  have KY0 := Lib.hid (fun v1 v2 w (h1 : KLst w v1 KA) (h2 : KLst w v2 KA) => keys_any v1 v2 KA KA w h1 h2 m0 true (by simp))
  have KY1 := Lib.hid (fun v1 v2 w (h1 : KLst w v1 KR) (h2 : KLst w v2 KR) => keys_any v1 v2 KR KR w h1 h2 m1 true (by simp))
  have KY2 := Lib.hid (fun v1 v2 w (h1 : KLst w v1 KC) (h2 : KLst w v2 KC) => keys_any v1 v2 KC KC w h1 h2 m2 true (by simp))
  replace AW := Lib.hid AW
  replace S1 := Lib.hid S1
  replace S2 := Lib.hid S2
  clear O fA fB lA lB hA hB k0 k1 k2 h0 h1 h2 hz m0 m1 m2
  go_enter Try.func4, Try.ntmps4
  rcases hc with ⟨g0, g1, g2, rfl⟩ | ⟨g0, rfl⟩ | ⟨g0, g1, rfl⟩ | ⟨g0, g1, g2, rfl⟩
  all_goals go_wp2_with (first
    | ((with_reducible refine (AW.out _).mono ?_); rintro e w1 ⟨rfl, k1⟩; have K1 := Lib.hid k1; clear k1)
    | ((with_reducible refine (S1.out _ K1.out).mono ?_); rintro e w2 ⟨v5, rfl, l5, k2⟩; have K2 := Lib.hid (K1.out.next k2); have L5 := Lib.hid l5; clear k2 l5)
    | ((with_reducible refine (S2.out _ K2.out).mono ?_); rintro e w3 ⟨v7, rfl, l7, k3⟩; have K3 := Lib.hid (K2.out.next k3); have L35 := Lib.hid (L5.out.kep k3); have L37 := Lib.hid l7; clear k3 l7)
    | ((with_reducible refine (D1.out _ _ _ L35.out L37.out).mono ?_); rintro e w4 ⟨b0, s0, b1, s1, b2, s2, rfl, q4, k4⟩; have P4 := Lib.hid q4; have K4 := Lib.hid (fun o => (k4.next (Kep.made w4 o))); have J4 := Lib.hid (K3.out.next k4); clear k4 q4)
    | ((with_reducible refine (D2.out _ _ _ (L37.out.kep (K4.out _)) (L35.out.kep (K4.out _))).mono ?_); rintro e w5 ⟨y0, t0, y1, t1, y2, t2, rfl, q5, k5⟩; have P5 := Lib.hid q5; have K5 := Lib.hid (K4.out _ |>.next k5); have J5 := Lib.hid ((J4.out.next (Kep.made w4 _)).next k5); have P45 := Lib.hid (And.intro (P4.out.1.kep ((Kep.made w4 _).next k5)) (And.intro (P4.out.2.1.kep ((Kep.made w4 _).next k5)) (P4.out.2.2.kep ((Kep.made w4 _).next k5)))); have X9 := Lib.hid ((Bx.made w4 _ _ _ _).kep k5); have lt9 : w4.heap.size < w5.heap.size := World.block_lt_of_cell? _ _ X9.out.1; obtain ⟨i0, i1, i2⟩ := X9.out; clear k5 q5)
    | ((with_reducible refine (AP.out _ _ _ _ _ _ ((L35.out.kep K5.out).kep (Kep.made w5 _)) ((L37.out.kep K5.out).kep (Kep.made w5 _)) (P45.out.1.kep (Kep.made w5 _)) (P45.out.2.1.kep (Kep.made w5 _)) (P45.out.2.2.kep (Kep.made w5 _))).mono ?_); rintro e w6 ⟨v66, rfl, m6, k6⟩; have L6 := Lib.hid m6.1; have K6 := Lib.hid ((Kep.made w5 _).next k6); have X10 := Lib.hid ((Bx.made w5 _ _ _ _).kep k6); clear k6 m6)
    | ((with_reducible refine (SM.out _ _ _ L6.out ((L37.out.kep K5.out).kep K6.out)).mono ?_); rintro e w7 ⟨rfl, k7⟩; have K7 := Lib.hid (K6.out.next k7); have Z7 := Lib.hid k7; clear k7)
    | ((with_reducible refine (SB.out _ _ _ ((L35.out.kep K5.out).kep K7.out) ((L37.out.kep K5.out).kep K7.out)).mono ?_); rintro e w8 ⟨rfl, k8⟩; have K8 := Lib.hid (K7.out.next k8); have Z8 := Lib.hid (Z7.out.next k8); obtain ⟨i0, i1, i2⟩ := X9.out.kep K8.out; obtain ⟨j0, j1, j2⟩ := X10.out.kep Z8.out; clear k8)
    | ((with_reducible refine (KY0.out _ _ _ (P45.out.1.kep K8.out) (P5.out.2.1.kep K8.out)).mono ?_); rintro e w9 ⟨rfl, k9⟩; have K9 := Lib.hid (K8.out.next k9); have Z9 := Lib.hid (Z8.out.next k9); obtain ⟨i0, i1, i2⟩ := X9.out.kep K9.out; obtain ⟨j0, j1, j2⟩ := X10.out.kep Z9.out; clear k9)
    | ((with_reducible refine (KY1.out _ _ _ (P45.out.2.1.kep K9.out) (P5.out.1.kep K9.out)).mono ?_); rintro e w10 ⟨rfl, k10⟩; have K10 := Lib.hid (K9.out.next k10); have Z10 := Lib.hid (Z9.out.next k10); obtain ⟨i0, i1, i2⟩ := X9.out.kep K10.out; obtain ⟨j0, j1, j2⟩ := X10.out.kep Z10.out; clear k10)
    | ((with_reducible refine (KY2.out _ _ _ (P45.out.2.2.kep K10.out) (P5.out.2.2.kep K10.out)).mono ?_); rintro e w11 ⟨rfl, k11⟩; have K11 := Lib.hid (K10.out.next k11); clear k11))
  all_goals go_ret
  all_goals exact ⟨rfl, J5.out.next K11.out⟩
/-- The law ViewDiff. -/
theorem vdl_all (AW : VAwake) (O : VOps) (v1 v2 : Value) (L M : List Bd) (w : World) (h1 : Lst w v1 L) (h2 : Lst w v2 M) (f1 : Fit L) (f2 : Fit M) : Calls Try.prog 4 #[v1, v2] w fun e w' => e = .returned (.bool true) ∧ Kep w.heap.size w w' := by
  obtain ⟨b1, c1, rfl⟩ := h1.shape
  obtain ⟨b2, c2, rfl⟩ := h2.shape
  by_cases l1 : 100 < L.length
  · exact vdl_long1 AW b1 b2 c1 c2 _ _ w (by omega)
  by_cases l2 : 100 < M.length
  · exact vdl_long2 AW b1 b2 c1 c2 _ _ w (by omega) (by omega)
  have S1 := vs_of h1 (by omega)
  have S2 := vs_of h2 (by omega)
  by_cases e1 : sortE L = 0
  rotate_left
  · exact vdl_bad AW b1 b2 c1 c2 _ _ w (by omega) (by omega) _ _ _ _ S1 S2 (.inl (bne_iff_ne.2 e1))
  by_cases e2 : sortE M = 0
  rotate_left
  · exact vdl_bad AW b1 b2 c1 c2 _ _ w (by omega) (by omega) _ _ _ _ S1 S2 (.inr ⟨by rw [e1]; rfl, bne_iff_ne.2 e2⟩)
  rw [e1] at S1
  rw [e2] at S2
  have a1 := sortL_asc L
  have a2 := sortL_asc M
  have hd := diff_nil a1.1 a2.1
  have nz : ∀ {K : List Int}, K ≠ [] → ((K.length : Int) == 0) = false := fun {K} h => by
    cases K with
    | nil => exact absurd rfl h
    | cons x l => exact beq_eq_false_iff_ne.2 (by simp; omega)
  have zz : ∀ {K : List Int}, K = [] → ((K.length : Int) == 0) = true := fun {K} h => by rw [h]; rfl
  refine vdl_main AW O b1 b2 c1 c2 _ _ w (by omega) (by omega) (sortL L) (sortL M) S1 S2 (sortL_fits f1) (sortL_fits f2) (by omega) (by omega) a1.1 a2.1 _ _ _ _ _ _ rfl rfl rfl rfl rfl rfl (decide (sortL L = sortL M)) decide_eq_true_iff ?_
  by_cases g0 : remL (sortL M) (sortL L) = []
  · by_cases g1 : remL (sortL L) (sortL M) = []
    · by_cases g2 : chgL (sortL L) (sortL M) = []
      · exact .inl ⟨zz g0, zz g1, zz g2, decide_eq_true (hd.1 ⟨g0, g1, g2⟩)⟩
      · exact .inr (.inr (.inr ⟨zz g0, zz g1, nz g2, decide_eq_false fun q => g2 (hd.2 q).2.2⟩))
    · exact .inr (.inr (.inl ⟨zz g0, nz g1, decide_eq_false fun q => g1 (hd.2 q).2.1⟩))
  · exact .inr (.inl ⟨nz g0, decide_eq_false fun q => g0 (hd.2 q).1⟩)
end Go.Proofs.Ytlfbiijillpnnaa
