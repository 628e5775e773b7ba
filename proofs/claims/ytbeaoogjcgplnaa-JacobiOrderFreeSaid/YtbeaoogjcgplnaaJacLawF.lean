/-
  Package jacobi: the law JacobiOrderFree.
-/
import Derived.Test.YtbeaoogjcgplnaaJacCon
import Derived.Deep.DeepCutAuto
import Derived.Deep.QuietTactic
import Derived.BigQuiet
namespace Go.Proofs.Ytbeaoogjcgplnaa
open Go.RowKit Go.Lib

theorem jarg_rot {A : List Bd} {C : List Ct} (h : JArg A C) (k : Nat) : JArg A (rotC C k) := ⟨h.vw, by rw [rot_len]; exact h.few, fun c hc => h.rg c (rot_mem.1 hc)⟩
theorem rot_take {C : List Ct} {k i : Nat} {c : Ct} (hk : k < C.length) (hi : i < C.length) (hc : C[(k + C.length - i) % C.length]? = some c) : (rotC C k).take (i + 1) = (rotC C k).take i ++ [c] := by
  rw [List.take_add_one, rot_at hk hi, hc]
  rfl
theorem rot_ix {k nc i m s1 s2 : Nat} (hi : i < nc) (h1 : s1 = k + nc) (h2 : s2 = k + nc - i) (hm : m = (k + nc - i) % nc) (hb : k ≤ 1000 ∧ nc ≤ 1000) : wrap64 ((k : Int) + (nc : Int)) = (s1 : Int) ∧ IntKind.i64.wrap ((k : Int) + (nc : Int)) = (s1 : Int) ∧ wrap64 ((s1 : Int) - (i : Int)) = (s2 : Int) ∧ IntKind.i64.wrap ((s1 : Int) - (i : Int)) = (s2 : Int) ∧ Int.tmod (s2 : Int) (nc : Int) = (m : Int) := by
  refine ⟨?_, ?_, ?_, ?_, ?_⟩
  · unfold wrap64; omega
  · rw [IntKind.wrap_i64]; omega
  · unfold wrap64; omega
  · rw [IntKind.wrap_i64]; omega
  · rw [Int.tmod_eq_emod_of_nonneg (by omega), hm, h2]
    rfl
set_option maxRecDepth 100000 in
set_option maxHeartbeats 2000000 in
theorem jfl_bad (AW : Hid JAwake) (t : Int) (L : List Bd) (v : Value) (w : World) (hq : Lst w v L) (C : List Ct) (l : Value) (hc : Sq ctv 5 w l C) (hvw : viwB L = false) : Calls Try.prog 4 #[v, l, .int .u8 t] w fun e w' => e = .returned (.bool true) ∧ Kep w.heap.size w w' := by
  obtain ⟨base, cap, rfl⟩ := hq.shape
  have HQ := Lib.hid hq
  have HC := Lib.hid hc
  clear hq hc
  have VW : Hid (∀ v w, Lst w v L → Calls Try.prog 8 #[v] w fun e w' => ∃ v', e = .returned (.tuple #[v', .bool false]) ∧ Lst w' v' (if L.length ≤ 40 then sortL L else []) ∧ Kep w.heap.size w w') := Lib.hid (fun v w h => (rvw L v w h).mono fun e w' ⟨v', h1, h2, h3⟩ => ⟨v', by rw [h1]; rw [hvw], h2.1, h3⟩)
  clear HC
  go_enter Try.func4, Try.ntmps4
  go_wp2_with (first
    | ((with_reducible refine (VW.out _ _ (HQ.out.kep (Kep.refl _ _))).mono ?_); rintro e w1 ⟨v1, rfl, l1, g1⟩
       have gg := kep_next (Kep.refl _ _) g1)
    | ((with_reducible refine (AW.out _).mono ?_); rintro e w2 ⟨rfl, g2⟩
       replace gg := kep_next gg g2
       replace l1 := l1.kep g2))
  go_ret
  exact ⟨rfl, gg⟩
set_option maxRecDepth 100000 in
set_option maxHeartbeats 2000000 in
theorem jfl_not (AW : Hid JAwake) (t : Int) (L : List Bd) (v : Value) (w : World) (hq : Lst w v L) (C : List Ct) (l : Value) (hc : Sq ctv 5 w l C) (HF : Hid (∀ x ∈ L, Fits x)) (hvw : viwB L = true) (hr : rgtJ (sortL L) C = false) : Calls Try.prog 4 #[v, l, .int .u8 t] w fun e w' => e = .returned (.bool true) ∧ Kep w.heap.size w w' := by
  obtain ⟨base, cap, rfl⟩ := hq.shape
  have HQ := Lib.hid hq
  have HC := Lib.hid hc
  clear hq hc
  have VW : Hid (∀ v w, Lst w v L → Calls Try.prog 8 #[v] w fun e w' => ∃ v', e = .returned (.tuple #[v', .bool true]) ∧ Lst w' v' (sortL L) ∧ Kep w.heap.size w w') := Lib.hid (fun v w h => (rvw L v w h).mono fun e w' ⟨v', h1, h2, h3⟩ => ⟨v', by rw [h1]; rw [hvw], by have := h2.1; rw [if_pos (vw_of hvw HF.out).1] at this; exact this, h3⟩)
  have HVW := Lib.hid (vw_of hvw HF.out).2.2
  obtain ⟨A, hA⟩ : ∃ A, A = sortL L := ⟨_, rfl⟩
  rw [← hA] at VW HVW hr
  clear hA
  have RR := Lib.hid (show RRj A C false by rw [← hr]; exact rrj A (by have := HVW.out.len; omega) C)
  go_enter Try.func4, Try.ntmps4
  go_wp2_with (first
    | ((with_reducible refine (VW.out _ _ (HQ.out.kep (Kep.refl _ _))).mono ?_); rintro e w1 ⟨v1, rfl, l1, g1⟩
       have gg := kep_next (Kep.refl _ _) g1)
    | ((with_reducible refine (AW.out _).mono ?_); rintro e w2 ⟨rfl, g2⟩
       replace gg := kep_next gg g2
       replace l1 := l1.kep g2)
    | ((with_reducible refine (RR.out _ _ _ l1 (HC.out.kep gg)).mono ?_); rintro e w3 ⟨rfl, g3⟩
       replace gg := kep_next gg g3
       replace l1 := l1.kep g3))
  go_ret
  exact ⟨rfl, gg⟩
set_option maxRecDepth 100000 in
set_option maxHeartbeats 8000000 in
theorem jfl_nil (AW : Hid JAwake) (t : Int) (L : List Bd) (v : Value) (w : World) (hq : Lst w v L) (C : List Ct) (l : Value) (hc : Sq ctv 5 w l C) (HF : Hid (∀ x ∈ L, Fits x)) (hvw : viwB L = true) (hr : rgtJ (sortL L) C = true) (hn : C.length = 0) : Calls Try.prog 4 #[v, l, .int .u8 t] w fun e w' => e = .returned (.bool true) ∧ Kep w.heap.size w w' := by
  obtain ⟨base, cap, rfl⟩ := hq.shape
  have HQ := Lib.hid hq
  have HC := Lib.hid hc
  clear hq hc
  have VW : Hid (∀ v w, Lst w v L → Calls Try.prog 8 #[v] w fun e w' => ∃ v', e = .returned (.tuple #[v', .bool true]) ∧ Lst w' v' (sortL L) ∧ Kep w.heap.size w w') := Lib.hid (fun v w h => (rvw L v w h).mono fun e w' ⟨v', h1, h2, h3⟩ => ⟨v', by rw [h1]; rw [hvw], by have := h2.1; rw [if_pos (vw_of hvw HF.out).1] at this; exact this, h3⟩)
  have HVW := Lib.hid (vw_of hvw HF.out).2.2
  obtain ⟨A, hA⟩ : ∃ A, A = sortL L := ⟨_, rfl⟩
  rw [← hA] at VW HVW hr
  clear hA
  have RR := Lib.hid (show RRj A C true by rw [← hr]; exact rrj A (by have := HVW.out.len; omega) C)
  have HJ := Lib.hid (jarg HVW.out hr)
  clear hr
  clear HJ
  obtain ⟨bc, cc, hl⟩ := HC.out.shape
  rw [hn] at hl
  subst hl
  have z0 : (([] : List Ct).length : Int) = 0 := rfl
  go_enter Try.func4, Try.ntmps4
  go_wp2_with (first
    | ((with_reducible refine (VW.out _ _ (HQ.out.kep (Kep.refl _ _))).mono ?_); rintro e w1 ⟨v1, rfl, l1, g1⟩
       have gg := kep_next (Kep.refl _ _) g1)
    | ((with_reducible refine (AW.out _).mono ?_); rintro e w2 ⟨rfl, g2⟩
       replace gg := kep_next gg g2
       replace l1 := l1.kep g2)
    | ((with_reducible refine (RR.out _ _ _ l1 (HC.out.kep gg)).mono ?_); rintro e w3 ⟨rfl, g3⟩
       replace gg := kep_next gg g3
       replace l1 := l1.kep g3))
  go_ret
  exact ⟨rfl, gg⟩
set_option maxRecDepth 100000 in
set_option maxHeartbeats 8000000 in
theorem jfl_ok (O : JOps) (AW : Hid JAwake) (t : Int) (ht : 0 ≤ t ∧ t < 256) (L : List Bd) (v : Value) (w : World) (hq : Lst w v L) (C : List Ct) (l : Value) (hc : Sq ctv 5 w l C) (HF : Hid (∀ x ∈ L, Fits x)) (hvw : viwB L = true) (hr : rgtJ (sortL L) C = true) (k : Nat) (hk : k < C.length) (htk : t % (C.length : Int) = (k : Int)) : Calls Try.prog 4 #[v, l, .int .u8 t] w fun e w' => e = .returned (.bool true) ∧ Kep w.heap.size w w' := by
  obtain ⟨base, cap, rfl⟩ := hq.shape
  have HQ := Lib.hid hq
  have HC := Lib.hid hc
  clear hq hc
  have VW : Hid (∀ v w, Lst w v L → Calls Try.prog 8 #[v] w fun e w' => ∃ v', e = .returned (.tuple #[v', .bool true]) ∧ Lst w' v' (sortL L) ∧ Kep w.heap.size w w') := Lib.hid (fun v w h => (rvw L v w h).mono fun e w' ⟨v', h1, h2, h3⟩ => ⟨v', by rw [h1]; rw [hvw], by have := h2.1; rw [if_pos (vw_of hvw HF.out).1] at this; exact this, h3⟩)
  have HVW := Lib.hid (vw_of hvw HF.out).2.2
  obtain ⟨A, hA⟩ : ∃ A, A = sortL L := ⟨_, rfl⟩
  rw [← hA] at VW HVW hr
  clear hA
  have RR := Lib.hid (show RRj A C true by rw [← hr]; exact rrj A (by have := HVW.out.len; omega) C)
  have HJ := Lib.hid (jarg HVW.out hr)
  clear hr
  have HD := Lib.hid (jarg_rot HJ.out k)
  have HSV := Lib.hid (slv_same (fun f L x => rot_sum f L C k x) A 4)
  have PV := Lib.hid (fun v l w h h2 => O.solve v A l C w h h2 HJ.out)
  have PW := Lib.hid (fun v l w h h2 => (show Calls Try.prog 14 #[v, l] w fun e w' => ∃ v', e = .returned (.tuple #[v', .bool (slvN C A 4).2]) ∧ (Lst w' v' (slvN C A 4).1 ∧ NewZ w v' w') ∧ Kep w.heap.size w w' by rw [HSV.out]; exact O.solve v A l (rotC C k) w h h2 HD.out))
  have hl4 : (slvN C A 4).1.length ≤ 1000000000 := by rw [slv_len]; have := HVW.out.len; omega
  have LS := Lib.hid (fun va vb w h1 h2 => same_any va vb (slvN C A 4).1 w h1 h2 hl4)
  have q2 : ((slvN C A 4).2 == (slvN C A 4).2) = true := by simp
  obtain ⟨bc, cc, rfl, hcc⟩ := HC.out
  have HCE := Lib.hid hcc
  clear hcc
  have hfew := HJ.out.few
  have HRT := Lib.hid (fun (i : Nat) (c : Ct) (hi : i < C.length) (hc : C[(k + C.length - i) % C.length]? = some c) => rot_take hk hi hc)
  have HRL := Lib.hid (rot_len C k)
  clear hl4
  generalize hnc : C.length = nc at *
  have HN := Lib.hid hnc
  clear hnc
  have t1 : IntKind.i64.wrap t = t := by rw [IntKind.wrap_i64]; omega
  have t2 : wrap64 t = t := by unfold wrap64; omega
  have t3 : ((nc : Int) == 0) = false := by simp; omega
  have t4 : Int.tmod t (nc : Int) = (k : Int) := by rw [Int.tmod_eq_emod_of_nonneg ht.1]; exact htk
  go_enter Try.func4, Try.ntmps4
  go_wp2_with (first
    | ((with_reducible refine (VW.out _ _ (HQ.out.kep (Kep.refl _ _))).mono ?_); rintro e w1 ⟨v1, rfl, l1, g1⟩
       have gg := kep_next (Kep.refl _ _) g1)
    | ((with_reducible refine (AW.out _).mono ?_); rintro e w2 ⟨rfl, g2⟩
       replace gg := kep_next gg g2
       replace l1 := l1.kep g2)
    | ((with_reducible refine (RR.out _ _ _ l1 (HC.out.kep gg)).mono ?_); rintro e w3 ⟨rfl, g3⟩
       replace gg := kep_next gg g3
       replace l1 := l1.kep g3))
  clear t1 t2 t4 htk ht
  have HL := Lib.hid l1
  have G0 := Lib.hid gg
  clear gg l1
  go_loopw [10, 11] (fun out j wr => ∃ i : Nat, i ≤ nc ∧ j = .int .i64 i ∧ Hid (wr.ownsRow w3.heap.size 41 5 out ((rotC C k).take i).length (((rotC C k).take i).flatMap ctv) ∧ Kep w3.heap.size w3 wr)) (fun _ j _ => nc - (RowKit.intOf j).toNat)
  case atStart => exact ⟨0, by omega, rfl, Lib.hid ⟨World.ownsRow_nil _ _ _ _, Kep.refl _ _⟩⟩
  case round =>
    obtain ⟨i, hi, rfl, HP⟩ := hrel
    have gi := HP.out.2
    have HO := Lib.hid HP.out.1
    by_cases hlt : i < nc
    · obtain ⟨m, hm⟩ : ∃ m, m = (k + nc - i) % nc := ⟨_, rfl⟩
      have hml : m < nc := by rw [hm]; exact Nat.mod_lt _ (by omega)
      have hb : C[m]? = some (C[m]'(by rw [HN.out]; exact hml)) := List.getElem?_eq_getElem _
      generalize C[m]'(by rw [HN.out]; exact hml) = c at hb
      have HRK := Lib.hid (HRT.out i c hlt (by rw [← hm]; exact hb))
      obtain ⟨gc, oc, rfl, q⟩ := HCE.out m c hb
      have gw := kep_next G0.out gi
      have s0 : wr.cell? ⟨gc, oc + m * 5, none⟩ = some (.int .u32 c.lo) := gw.all (q 0 _ rfl)
      have s1 : wr.cell? ⟨gc, oc + m * 5 + 1, none⟩ = some (.int .u32 c.hi) := gw.all (q 1 _ rfl)
      have s2 : wr.cell? ⟨gc, oc + m * 5 + 2, none⟩ = some (.int .i32 c.nx) := gw.all (q 2 _ rfl)
      have s3 : wr.cell? ⟨gc, oc + m * 5 + 3, none⟩ = some (.int .i32 c.ny) := gw.all (q 3 _ rfl)
      have s4 : wr.cell? ⟨gc, oc + m * 5 + 4, none⟩ = some (.int .i32 c.dp) := gw.all (q 4 _ rfl)
      have hln : ((rotC C k).take i).length = i := by rw [List.length_take, HRL.out]; omega
      obtain ⟨s1, hs1⟩ : ∃ s, s = k + nc := ⟨_, rfl⟩
      obtain ⟨s2, hs2⟩ : ∃ s, s = k + nc - i := ⟨_, rfl⟩
      have e1 := (rot_ix hlt hs1 hs2 hm (by omega)).1
      have e2 := (rot_ix hlt hs1 hs2 hm (by omega)).2.1
      have e3 := (rot_ix hlt hs1 hs2 hm (by omega)).2.2.1
      have e4 := (rot_ix hlt hs1 hs2 hm (by omega)).2.2.2.1
      have e5 := (rot_ix hlt hs1 hs2 hm (by omega)).2.2.2.2
      have m0 : (0 : Int) ≤ (m : Int) := by omega
      have m1 : (m : Int) < (nc : Int) := by omega
      clear hb q hm HP hs1 hs2
      go_wp2_with (first
        | (at_builtin; refine wpList_app ctv 5 ctv_len ctv_one rfl _ _ 23 rfl 41 _ 20 Try.underlying23 info_ctJ rfl (by decide) w3.heap.size _ _ ((rotC C k).take i) c rfl HO.out _ (by first | rfl | simp) rfl _ rfl (by rw [hln]; unfold maxLen; omega) (by rw [hln]; omega) gi.size ?_; intro v4 w4 o4 k4))
      have HM : Hid (w4.ownsRow w3.heap.size 41 5 v4 ((rotC C k).take (i + 1)).length (((rotC C k).take (i + 1)).flatMap ctv) ∧ Kep w3.heap.size w3 w4) := Lib.hid ⟨by rw [HRK.out]; exact o4, gi.trans k4⟩
      clear o4 k4 hln e1 e2 e3 e4 e5
      go_roundw
      case rel => exact ⟨i + 1, by omega, by go_num, HM⟩
      case measure => simp [RowKit.intOf]; omega
    · obtain rfl : i = nc := by omega
      have h1 := HO.out
      rw [List.take_of_length_le (by rw [HRL.out]; omega)] at h1
      have qd := own_sq ctv_len h1
      have l1 := HL.out.kep gi
      have gg := kep_next G0.out gi
      clear h1 HP HO
      obtain ⟨b9, c9, rfl⟩ := qd.shape
      go_wp2_with (first
        | ((with_reducible refine (PV.out _ _ _ l1 (HC.out.kep gg)).mono ?_); rintro e w5 ⟨v5, rfl, ⟨s5, _⟩, g5⟩; replace l1 := l1.kep g5; replace qd := qd.kep g5; replace gg := kep_next gg g5)
        | ((with_reducible refine (PW.out _ _ _ l1 qd).mono ?_); rintro e w6 ⟨v6, rfl, ⟨s6, _⟩, g6⟩; replace s5 := s5.kep g6; replace gg := kep_next gg g6)
        | ((with_reducible refine (LS.out _ _ _ s5 s6).mono ?_); rintro e w7 ⟨rfl, g7⟩; replace gg := kep_next gg g7))
      go_ret
      exact ⟨rfl, gg⟩
/-- The law JacobiOrderFree. -/
theorem jfl_law (O : JOps) (AW : JAwake) (t : Int) (ht : 0 ≤ t ∧ t < 256) (L : List Bd) (v : Value) (w : World) (hq : Lst w v L) (C : List Ct) (l : Value) (hc : Sq ctv 5 w l C) (HF : ∀ x ∈ L, Fits x) : Calls Try.prog 4 #[v, l, .int .u8 t] w fun e w' => e = .returned (.bool true) ∧ Kep w.heap.size w w' := by
  cases hvw : viwB L
  · exact jfl_bad (Lib.hid AW) t L v w hq C l hc hvw
  · cases hr : rgtJ (sortL L) C
    · exact jfl_not (Lib.hid AW) t L v w hq C l hc (Lib.hid HF) hvw hr
    · by_cases hn : C.length = 0
      · exact jfl_nil (Lib.hid AW) t L v w hq C l hc (Lib.hid HF) hvw hr hn
      · have h1 := Int.emod_nonneg t (show (C.length : Int) ≠ 0 by omega)
        have h2 := Int.emod_lt_of_pos t (show (0 : Int) < (C.length : Int) by omega)
        exact jfl_ok O (Lib.hid AW) t ht L v w hq C l hc (Lib.hid HF) hvw hr (t % (C.length : Int)).toNat (by omega) (by omega)
end Go.Proofs.Ytbeaoogjcgplnaa
