/-
  Package view: the law ViewMatchesReference.
-/
import Derived.Test.YtlfbiijillpnnaaViewLawD
namespace Go.Proofs.Ytlfbiijillpnnaa
open Go.RowKit Go.Lib

set_option maxRecDepth 100000 in
set_option maxHeartbeats 1000000 in
theorem vml_long1 (AW : VAwake) (b1 b2 : Option Addr) (c1 c2 n1 n2 : Nat) (key : Int) (w : World) (hl : (100 : Int) < (n1 : Int)) : Calls Try.prog 3 #[.slice b1 n1 c1, .slice b2 n2 c2, .int .u32 key] w fun e w' => e = .returned (.bool true) ∧ Kep w.heap.size w w' := by
  replace AW := Lib.hid AW
  go_enter Try.func3, Try.ntmps3
  go_wp2_with (first
    | ((with_reducible refine (AW.out _).mono ?_); rintro e w2 ⟨rfl, k2⟩; have K2 := Lib.hid (K1.out.next k2))
    | ((with_reducible refine (AW.out _).mono ?_); rintro e w1 ⟨rfl, k1⟩; have K1 := Lib.hid k1))
  go_ret
  exact ⟨rfl, K2.out⟩
set_option maxRecDepth 100000 in
set_option maxHeartbeats 1000000 in
theorem vml_long2 (AW : VAwake) (b1 b2 : Option Addr) (c1 c2 n1 n2 : Nat) (key : Int) (w : World) (hs : (n1 : Int) ≤ 100) (hl : (100 : Int) < (n2 : Int)) : Calls Try.prog 3 #[.slice b1 n1 c1, .slice b2 n2 c2, .int .u32 key] w fun e w' => e = .returned (.bool true) ∧ Kep w.heap.size w w' := by
  replace AW := Lib.hid AW
  go_enter Try.func3, Try.ntmps3
  go_wp2_with (first
    | ((with_reducible refine (AW.out _).mono ?_); rintro e w2 ⟨rfl, k2⟩; have K2 := Lib.hid (K1.out.next k2))
    | ((with_reducible refine (AW.out _).mono ?_); rintro e w1 ⟨rfl, k1⟩; have K1 := Lib.hid k1))
  go_ret
  exact ⟨rfl, K2.out⟩

/-- What the walk needs of the first list: its sorting and checking, by the program and by the reference. -/
structure MFst (w : World) (v : Value) (e c : Int) (A : List Bd) : Prop where
  sp : ∀ w', Kep w.heap.size w w' → Calls Try.prog 9 #[v] w' fun x w2 => ∃ v', x = .returned (.tuple #[v', .int .i64 e]) ∧ Lst w2 v' A ∧ Kep w'.heap.size w' w2
  sr : ∀ w', Kep w.heap.size w w' → Calls Try.prog 10 #[v] w' fun x w2 => ∃ v', x = .returned (.tuple #[v', .int .i64 e]) ∧ Lst w2 v' A ∧ Kep w'.heap.size w' w2
  cp : ∀ w', Kep w.heap.size w w' → Calls Try.prog 12 #[v] w' fun x w2 => x = .returned (.int .i64 c) ∧ Kep w'.heap.size w' w2
  cr : ∀ w', Kep w.heap.size w w' → Calls Try.prog 13 #[v] w' fun x w2 => x = .returned (.int .i64 c) ∧ Kep w'.heap.size w' w2
theorem mfst_of (O : VOps) {w : World} {v : Value} {L : List Bd} (h : Lst w v L) (f : Fit L) (hl : L.length ≤ 1000000) : MFst w v (sortE L) (vchkE L) (sortL L) :=
  ⟨fun w' g => (O.sort v L w' (h.kep g) f hl).mono fun _ _ ⟨v', h1, h2, h3⟩ => ⟨v', h1, h2.1, h3⟩, vs_of h hl, fun w' g => O.check v L w' (h.kep g) f hl, fun w' g => vcheck_any v L w' (h.kep g) hl⟩
set_option maxRecDepth 100000 in
set_option maxHeartbeats 4000000 in
theorem vml_bad (AW : VAwake) (b1 b2 : Option Addr) (c1 c2 n1 n2 : Nat) (key : Int) (w : World) (hs1 : (n1 : Int) ≤ 100) (hs2 : (n2 : Int) ≤ 100) (e1 e2 c : Int) (A B : List Bd) (S1 : MFst w (.slice b1 n1 c1) e1 c A) (S2 : VS w (.slice b2 n2 c2) e2 B) (hA : A.length ≤ 1000000000) (hb : (e1 != 0) = true ∨ ((e1 != 0) = false ∧ (e2 != 0) = true)) :
    Calls Try.prog 3 #[.slice b1 n1 c1, .slice b2 n2 c2, .int .u32 key] w fun e w' => e = .returned (.bool true) ∧ Kep w.heap.size w w' := by
  have SM := Lib.hid (fun v1 v2 w (h1 : Lst w v1 A) (h2 : Lst w v2 A) => same_any v1 v2 A w h1 h2 hA)
  replace AW := Lib.hid AW
  replace S1 := Lib.hid S1
  replace S2 := Lib.hid S2
  have q1 : (e1 != e1) = false := by simp
  have q2 : (c != c) = false := by simp
  clear hA
  go_enter Try.func3, Try.ntmps3
  rcases hb with h1 | ⟨h1, h2⟩
  all_goals go_wp2_with (first
    | ((with_reducible refine (AW.out _).mono ?_); rintro e w1 ⟨rfl, k1⟩; have K1 := Lib.hid k1; clear k1)
    | ((with_reducible refine (S1.out.sp _ K1.out).mono ?_); rintro e w2 ⟨v7, rfl, l7, k2⟩; have K2 := Lib.hid (K1.out.next k2); have L7 := Lib.hid l7; clear k2 l7)
    | ((with_reducible refine (S1.out.sr _ K2.out).mono ?_); rintro e w3 ⟨v9, rfl, l9, k3⟩; have K3 := Lib.hid (K2.out.next k3); have L37 := Lib.hid (L7.out.kep k3); have L39 := Lib.hid l9; clear k3 l9)
    | ((with_reducible refine (SM.out _ _ _ L37.out L39.out).mono ?_); rintro e w4 ⟨rfl, k4⟩; have K4 := Lib.hid (K3.out.next k4); have L49 := Lib.hid (L39.out.kep k4); clear k4)
    | ((with_reducible refine (S1.out.cp _ K4.out).mono ?_); rintro e w5 ⟨rfl, k5⟩; have K5 := Lib.hid (K4.out.next k5); clear k5)
    | ((with_reducible refine (S1.out.cr _ K5.out).mono ?_); rintro e w6 ⟨rfl, k6⟩; have K6 := Lib.hid (K5.out.next k6); clear k6)
    | ((with_reducible refine (S2.out _ K6.out).mono ?_); rintro e w7 ⟨v11, rfl, l11, k7⟩; have K7 := Lib.hid (K6.out.next k7); clear k7 l11))
  all_goals go_ret
  all_goals exact ⟨rfl, K7.out⟩
set_option maxRecDepth 100000 in
set_option maxHeartbeats 4000000 in
theorem vml_main (AW : VAwake) (O : VOps) (b1 b2 : Option Addr) (c1 c2 n1 n2 : Nat) (key : Int) (hkey : (Lit.int .u32 key).wf = true) (w : World) (hs1 : (n1 : Int) ≤ 100) (hs2 : (n2 : Int) ≤ 100) (c : Int) (A B : List Bd) (S1 : MFst w (.slice b1 n1 c1) 0 c A) (S2 : VS w (.slice b2 n2 c2) 0 B) (fA : Fit A) (fB : Fit B) (lA : A.length ≤ 100) (lB : B.length ≤ 100) (hA : Asc A) (hB : Asc B)
    (ok : Bool) (p : Int) (hok : ok = (look A key).isSome) (hp : p = place A key 0) (hc : (ok = true ∧ (0 : Int) ≤ p) ∨ (ok = false ∧ p = -1)) :
    Calls Try.prog 3 #[.slice b1 n1 c1, .slice b2 n2 c2, .int .u32 key] w fun e w' => e = .returned (.bool true) ∧ Kep w.heap.size w w' := by
  have SM := Lib.hid (fun v1 v2 w (h1 : Lst w v1 A) (h2 : Lst w v2 A) => same_any v1 v2 A w h1 h2 (by omega))
  obtain ⟨nk, hnk⟩ : ∃ nk, nk = lessK A key := ⟨_, rfl⟩
  have FN := Lib.hid (fun v w (h : Lst w v A) => hnk ▸ hok ▸ O.find v A key w h fA (by omega) hA hkey)
  have RF := Lib.hid (fun v w (h : Lst w v A) => hp ▸ find_any v A key w h (by omega))
  have DV := Lib.hid (fun v1 v2 w (h1 : Lst w v1 A) (h2 : Lst w v2 B) => O.diff v1 v2 A B w h1 h2 fA fB (by omega) (by omega) hA hB)
  have DR := Lib.hid (fun v1 v2 w (h1 : Lst w v1 A) (h2 : Lst w v2 B) => vdiff_any v1 v2 A B w h1 h2 (by omega) (by omega))
  obtain ⟨C, hC⟩ : ∃ C, C = diffC A B := ⟨_, rfl⟩
  rw [← hC] at DV DR
  have CH := Lib.hid (fun v w (h : CLst w v C) => change_any v C w h)
  have m0 : C.add.length ≤ 1000000000 := by rw [hC]; have := remL_len B A B.length; rw [List.take_length] at this; exact Nat.le_trans this (by omega)
  have m1 : C.rem.length ≤ 1000000000 := by rw [hC]; have := remL_len A B A.length; rw [List.take_length] at this; exact Nat.le_trans this (by omega)
  have m2 : C.chg.length ≤ 1000000000 := by rw [hC]; have := chgL_len A B A.length; rw [List.take_length] at this; exact Nat.le_trans this (by omega)
  have S7 : Hid (∀ v1 v2 w, CLst w v1 C → CLst w v2 C → Calls Try.prog 16 #[v1, v2] w fun e w' => e = .returned (.bool true) ∧ Kep w.heap.size w w') := Lib.hid (fun v1 v2 w h1 h2 => by
    have := vsame_any v1 v2 C C w h1 h2 m0 m1 m2
    rw [decide_eq_true rfl] at this
    exact this)
  obtain ⟨nA, hnA⟩ : ∃ nA, nA = A.length := ⟨_, rfl⟩
  have HN := Lib.hid hnA.symm
  have HK := Lib.hid hnk
  rw [← hnA] at lA
  have hnA' : (nA : Int) ≤ 100 := by omega
  replace AW := Lib.hid AW
  replace S1 := Lib.hid S1
  replace S2 := Lib.hid S2
  have q2 : (c != c) = false := by simp
  clear O fA fB lB hA hB hC m0 m1 m2 hok hp hnA hnk
  go_enter Try.func3, Try.ntmps3
  go_wp2_with (first
    | ((with_reducible refine (AW.out _).mono ?_); rintro e w1 ⟨rfl, k1⟩; have K1 := Lib.hid k1; clear k1)
    | ((with_reducible refine (S1.out.sp _ K1.out).mono ?_); rintro e w2 ⟨v7, rfl, l7, k2⟩; have K2 := Lib.hid (K1.out.next k2); have L7 := Lib.hid l7; clear k2 l7)
    | ((with_reducible refine (S1.out.sr _ K2.out).mono ?_); rintro e w3 ⟨v9, rfl, l9, k3⟩; have K3 := Lib.hid (K2.out.next k3); have L37 := Lib.hid (L7.out.kep k3); have L39 := Lib.hid l9; clear k3 l9)
    | ((with_reducible refine (SM.out _ _ _ L37.out L39.out).mono ?_); rintro e w4 ⟨rfl, k4⟩; have K4 := Lib.hid (K3.out.next k4); have L49 := Lib.hid (L39.out.kep k4); clear k4)
    | ((with_reducible refine (S1.out.cp _ K4.out).mono ?_); rintro e w5 ⟨rfl, k5⟩; have K5 := Lib.hid (K4.out.next k5); have L59 := Lib.hid (L49.out.kep k5); clear k5)
    | ((with_reducible refine (S1.out.cr _ K5.out).mono ?_); rintro e w6 ⟨rfl, k6⟩; have K6 := Lib.hid (K5.out.next k6); have L69 := Lib.hid (L59.out.kep k6); clear k6)
    | ((with_reducible refine (S2.out _ K6.out).mono ?_); rintro e w7 ⟨v11, rfl, l11, k7⟩; have K7 := Lib.hid (K6.out.next k7); have L79 := Lib.hid (L69.out.kep k7); have L711 := Lib.hid l11; clear k7 l11)
    | ((with_reducible refine (FN.out _ _ L79.out).mono ?_); rintro e w8 ⟨rfl, k8⟩; have K8 := Lib.hid (K7.out.next k8); have L89 := Lib.hid (L79.out.kep k8); have L811 := Lib.hid (L711.out.kep k8); obtain ⟨b9, c9, hv9⟩ := L89.out.shape; rw [HN.out] at hv9; subst hv9; clear k8))
  go_loopw [15, 16] (fun less i wr => ∃ k q : Nat, k ≤ nA ∧ q ≤ k ∧ i = .int .i64 k ∧ less = .int .i64 q ∧ Hid (q = lessK (A.take k) key ∧ Kep w8.heap.size w8 wr)) (fun _ i _ => nA - (RowKit.intOf i).toNat)
  case atStart => exact ⟨0, 0, Nat.zero_le _, Nat.le_refl _, rfl, rfl, Lib.hid ⟨rfl, Kep.refl _ _⟩⟩
  case round =>
    obtain ⟨k, q, hk, hq, rfl, rfl, HR⟩ := hrel
    by_cases hlt : k < nA
    · have hx : A[k]? = some (A[k]'(by rw [HN.out]; exact hlt)) := List.getElem?_eq_getElem _
      generalize A[k]'(by rw [HN.out]; exact hlt) = x at hx
      obtain ⟨g1, off1, hb1, hc1⟩ := Lst.at_ (L89.out.kep HR.out.2) hx
      subst hb1
      have x0 : wr.cell? ⟨g1, off1 + k * 10, none⟩ = some (.int .u32 x.k) := hc1 0 (by omega)
      have LK := Lib.hid (lessK_take key hx)
      clear hc1 hx
      by_cases cc : x.k < key
      · go_wp2_with fail
        go_roundw
        case rel => exact ⟨k + 1, q + 1, by omega, by omega, by go_num, by go_num, Lib.hid ⟨by rw [LK.out, if_pos cc, HR.out.1], HR.out.2⟩⟩
        case measure => simp [RowKit.intOf]; omega
      · go_wp2_with fail
        go_roundw
        case rel => exact ⟨k + 1, q, by omega, by omega, by go_num, rfl, Lib.hid ⟨by rw [LK.out, if_neg cc, HR.out.1]; rfl, HR.out.2⟩⟩
        case measure => simp [RowKit.intOf]; omega
    · have hqn : q = nk := by rw [HR.out.1, HK.out, List.take_of_length_le (by rw [HN.out]; omega)]
      subst hqn
      have qq : ((q : Int) == (q : Int)) = true := by simp
      have KR := Lib.hid HR.out.2
      have LA := Lib.hid (L89.out.kep KR.out)
      have LB := Lib.hid (L811.out.kep KR.out)
      clear HR
      rcases hc with ⟨rfl, hp⟩ | ⟨rfl, rfl⟩
      all_goals go_wp2_with (first
        | ((with_reducible refine (RF.out _ _ LA.out).mono ?_); rintro e w9 ⟨rfl, rfl⟩)
        | ((with_reducible refine (DV.out _ _ _ LA.out LB.out).mono ?_); rintro e w10 ⟨v102, rfl, l102, k10⟩; have K10 := Lib.hid (KR.out.next k10); have LA2 := Lib.hid (LA.out.kep k10); have LB2 := Lib.hid (LB.out.kep k10); have C10 := Lib.hid l102; clear k10 l102)
        | ((with_reducible refine (CH.out _ _ C10.out).mono ?_); rintro e w11 ⟨rfl, k11⟩; have K11 := Lib.hid (K10.out.next k11); have LA3 := Lib.hid (LA2.out.kep k11); have LB3 := Lib.hid (LB2.out.kep k11); have C11 := Lib.hid (C10.out.kep k11); clear k11)
        | ((with_reducible refine (DR.out _ _ _ LA3.out LB3.out).mono ?_); rintro e w12 ⟨v106, rfl, l106, k12⟩; have K12 := Lib.hid (K11.out.next k12); have C12 := Lib.hid (C11.out.kep k12); have D12 := Lib.hid l106; clear k12 l106)
        | ((with_reducible refine (S7.out _ _ _ C12.out D12.out).mono ?_); rintro e w13 ⟨rfl, k13⟩; have K13 := Lib.hid (K12.out.next k13); clear k13))
      all_goals go_ret
      all_goals exact ⟨rfl, K8.out.next K13.out⟩
/-- The law ViewMatchesReference. -/
theorem vml_all (AW : VAwake) (O : VOps) (v1 v2 : Value) (L M : List Bd) (key : Int) (w : World) (h1 : Lst w v1 L) (h2 : Lst w v2 M) (f1 : Fit L) (f2 : Fit M) (hkey : (Lit.int .u32 key).wf = true) : Calls Try.prog 3 #[v1, v2, .int .u32 key] w fun e w' => e = .returned (.bool true) ∧ Kep w.heap.size w w' := by
  obtain ⟨b1, c1, rfl⟩ := h1.shape
  obtain ⟨b2, c2, rfl⟩ := h2.shape
  by_cases l1 : 100 < L.length
  · exact vml_long1 AW b1 b2 c1 c2 _ _ key w (by omega)
  by_cases l2 : 100 < M.length
  · exact vml_long2 AW b1 b2 c1 c2 _ _ key w (by omega) (by omega)
  have S1 := mfst_of O h1 f1 (by omega)
  have S2 := vs_of h2 (by omega)
  have a1 := sortL_asc L
  have a2 := sortL_asc M
  by_cases e1 : sortE L = 0
  rotate_left
  · exact vml_bad AW b1 b2 c1 c2 _ _ key w (by omega) (by omega) _ _ _ _ _ S1 S2 (by omega) (.inl (bne_iff_ne.2 e1))
  by_cases e2 : sortE M = 0
  rotate_left
  · exact vml_bad AW b1 b2 c1 c2 _ _ key w (by omega) (by omega) _ _ _ _ _ S1 S2 (by omega) (.inr ⟨by rw [e1]; rfl, bne_iff_ne.2 e2⟩)
  rw [e1] at S1
  rw [e2] at S2
  refine vml_main AW O b1 b2 c1 c2 _ _ key hkey w (by omega) (by omega) _ (sortL L) (sortL M) S1 S2 (sortL_fits f1) (sortL_fits f2) (by omega) (by omega) a1.1 a2.1 _ _ rfl rfl ?_
  have pe := place_eq (sortL L) key 0
  cases lk : look (sortL L) key with
  | none => exact .inr ⟨rfl, pe.1 lk⟩
  | some b => obtain ⟨j, hj, _⟩ := pe.2 b lk; exact .inl ⟨rfl, by rw [hj]; omega⟩
end Go.Proofs.Ytlfbiijillpnnaa
