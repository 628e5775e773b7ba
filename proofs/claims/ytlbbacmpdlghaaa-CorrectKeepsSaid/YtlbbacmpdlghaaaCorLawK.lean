/-
  Package correct: the law CorrectKeeps.
-/
import Derived.Test.YtlbbacmpdlghaaaCorCon
import Derived.Test.YtlbbacmpdlghaaaJ08PairsRef2
import Derived.Test.YtlbbacmpdlghaaaJ03StorePut
import Derived.Deep.DeepCutAuto
import Derived.Deep.QuietTactic
import Derived.BigQuiet
namespace Go.Proofs.Ytlbbacmpdlghaaa
open Go.RowKit Go.Lib

theorem info_ct8 : (Try.prog.info? 37).map (fun i => (i.zero, i.size, i.bytes)) = some (some (.agg #[.int .u32 0, .int .u32 0, .int .i32 0, .int .i32 0, .int .i32 0]), 5, 20) := by kernel_rfl
theorem ct_ncm8 (l h p q d : Int) (w : World) : (binOp .neq 37 (.agg #[.int .u32 l, .int .u32 h, .int .i32 p, .int .i32 q, .int .i32 d]) (.agg #[.int .u32 l, .int .u32 h, .int .i32 p, .int .i32 q, .int .i32 d])).run Try.prog w = .ok (.bool false) w := by simp [go_sem]
set_option maxRecDepth 100000 in
set_option maxHeartbeats 2000000 in
theorem ckl_bad (AW : Hid SAwake)  (L : List Bd) (v : Value) (w : World) (hq : Lst w v L) (C : List Ct) (l : Value) (hc : Sq ctv 5 w l C) (hvw : viwB L = false) : Calls Try.prog 6 #[v, l] w fun e w' => e = .returned (.bool true) ∧ Kep w.heap.size w w' := by
  obtain ⟨base, cap, rfl⟩ := hq.shape
  have HQ := Lib.hid hq
  have HC := Lib.hid hc
  clear hq hc
  have VW : Hid (∀ v w, Lst w v L → Calls Try.prog 8 #[v] w fun e w' => ∃ v', e = .returned (.tuple #[v', .bool false]) ∧ Lst w' v' (if L.length ≤ 40 then sortL L else []) ∧ Kep w.heap.size w w') := Lib.hid (fun v w h => (rvw L v w h).mono fun e w' ⟨v', h1, h2, h3⟩ => ⟨v', by rw [h1]; rw [hvw], h2.1, h3⟩)
  clear HC
  go_enter Try.func6, Try.ntmps6
  go_wp2_with (first
    | ((with_reducible refine (VW.out _ _ (HQ.out.kep (Kep.refl _ _))).mono ?_); rintro e w1 ⟨v1, rfl, l1, g1⟩
       have gg := kep_next (Kep.refl _ _) g1)
    | ((with_reducible refine (AW.out _).mono ?_); rintro e w2 ⟨rfl, g2⟩
       replace gg := kep_next gg g2
       replace l1 := l1.kep g2))
  go_ret
  exact ⟨rfl, gg⟩
set_option maxRecDepth 100000 in
set_option maxHeartbeats 2000000 in
theorem ckl_not (AW : Hid SAwake)  (L : List Bd) (v : Value) (w : World) (hq : Lst w v L) (C : List Ct) (l : Value) (hc : Sq ctv 5 w l C) (HF : Hid (∀ x ∈ L, Fits x)) (hvw : viwB L = true) (hr : rgtS (sortL L) C = false) : Calls Try.prog 6 #[v, l] w fun e w' => e = .returned (.bool true) ∧ Kep w.heap.size w w' := by
  obtain ⟨base, cap, rfl⟩ := hq.shape
  have HQ := Lib.hid hq
  have HC := Lib.hid hc
  clear hq hc
  have VW : Hid (∀ v w, Lst w v L → Calls Try.prog 8 #[v] w fun e w' => ∃ v', e = .returned (.tuple #[v', .bool true]) ∧ Lst w' v' (sortL L) ∧ Kep w.heap.size w w') := Lib.hid (fun v w h => (rvw L v w h).mono fun e w' ⟨v', h1, h2, h3⟩ => ⟨v', by rw [h1]; rw [hvw], by have := h2.1; rw [if_pos (vw_of hvw HF.out).1] at this; exact this, h3⟩)
  have HVW := Lib.hid (vw_of hvw HF.out).2.2
  obtain ⟨A, hA⟩ : ∃ A, A = sortL L := ⟨_, rfl⟩
  rw [← hA] at VW HVW hr
  clear hA
  have RR := Lib.hid (show RRs A C false by rw [← hr]; exact rrs A (by have := HVW.out.len; omega) C)
  go_enter Try.func6, Try.ntmps6
  go_wp2_with (first
    | ((with_reducible refine (VW.out _ _ (HQ.out.kep (Kep.refl _ _))).mono ?_); rintro e w1 ⟨v1, rfl, l1, g1⟩
       have gg := kep_next (Kep.refl _ _) g1)
    | ((with_reducible refine (AW.out _).mono ?_); rintro e w2 ⟨rfl, g2⟩
       replace gg := kep_next gg g2
       replace l1 := l1.kep g2)
    | ((with_reducible refine (RR.out _ _ _ l1 (HC.out.kep gg)).mono ?_); rintro e w3 ⟨rfl, g3⟩
       replace gg := kep_next gg g3
       replace l1 := l1.kep g3))
  go_ret
  exact ⟨rfl, gg⟩
set_option maxRecDepth 100000 in
set_option maxHeartbeats 8000000 in
theorem ckl_ok (O : SOps) (AW : Hid SAwake)  (L : List Bd) (v : Value) (w : World) (hq : Lst w v L) (C : List Ct) (l : Value) (hc : Sq ctv 5 w l C) (HF : Hid (∀ x ∈ L, Fits x)) (hvw : viwB L = true) (hr : rgtS (sortL L) C = true) : Calls Try.prog 6 #[v, l] w fun e w' => e = .returned (.bool true) ∧ Kep w.heap.size w w' := by
  obtain ⟨base, cap, rfl⟩ := hq.shape
  have HQ := Lib.hid hq
  have HC := Lib.hid hc
  clear hq hc
  have VW : Hid (∀ v w, Lst w v L → Calls Try.prog 8 #[v] w fun e w' => ∃ v', e = .returned (.tuple #[v', .bool true]) ∧ Lst w' v' (sortL L) ∧ Kep w.heap.size w w') := Lib.hid (fun v w h => (rvw L v w h).mono fun e w' ⟨v', h1, h2, h3⟩ => ⟨v', by rw [h1]; rw [hvw], by have := h2.1; rw [if_pos (vw_of hvw HF.out).1] at this; exact this, h3⟩)
  have HVW := Lib.hid (vw_of hvw HF.out).2.2
  obtain ⟨A, hA⟩ : ∃ A, A = sortL L := ⟨_, rfl⟩
  rw [← hA] at VW HVW hr
  clear hA
  have RR := Lib.hid (show RRs A C true by rw [← hr]; exact rrs A (by have := HVW.out.len; omega) C)
  have HJ := Lib.hid (sarg HVW.out hr)
  clear hr
  have PS := Lib.hid (fun v w h k h2 => O.shf v A k C w h h2 HJ.out)
  have hal := HVW.out.len
  have SM := Lib.hid (fun va vb w h1 h2 => same_any va vb A w h1 h2 (by omega))
  have hfew := HJ.out.few
  go_enter Try.func6, Try.ntmps6
  go_wp2_with (first
    | ((with_reducible refine (VW.out _ _ (HQ.out.kep (Kep.refl _ _))).mono ?_); rintro e w1 ⟨v1, rfl, l1, g1⟩
       have gg := kep_next (Kep.refl _ _) g1)
    | ((with_reducible refine (AW.out _).mono ?_); rintro e w2 ⟨rfl, g2⟩
       replace gg := kep_next gg g2
       replace l1 := l1.kep g2)
    | ((with_reducible refine (RR.out _ _ _ l1 (HC.out.kep gg)).mono ?_); rintro e w3 ⟨rfl, g3⟩
       replace gg := kep_next gg g3
       replace l1 := l1.kep g3)
    | (at_builtin; refine wpList_appAll vals 10 vals_lenK vals_oneK rfl _ _ 22 rfl 32 _ 40 Try.underlying22 info_body rfl (by decide) w3.heap.size _ _ _ ([] : List Bd) A rfl (World.ownsRow_made w3 #[] 0 (Nat.le_refl _) (Nat.zero_le _) (by simp)) rfl ((lst_sqK l1).kep (kep_more (Kep.refl _ _) _)) (by simp only [List.length_nil, Nat.zero_add]; skip; unfold maxLen; omega) (by simp only [List.length_nil, Nat.zero_add]; skip; omega) (by simp) ?_; intro v4 w4 o4 k4; have g4 : Kep w3.heap.size w3 w4 := (kep_more (Kep.refl _ _) _).trans k4; replace l1 := l1.kep g4; replace gg := kep_next gg g4; have own1 : Lst w4 v4 A := own_lst o4; clear o4 k4)
    | (at_builtin; refine wpList_appAll ctv 5 ctv_len ctv_one rfl _ _ 23 rfl 37 _ 20 Try.underlying23 info_ct8 rfl (by decide) w4.heap.size _ _ _ ([] : List Ct) C rfl (World.ownsRow_made w4 #[] 0 (Nat.le_refl _) (Nat.zero_le _) (by simp)) rfl ((HC.out.kep gg).kep (kep_more (Kep.refl _ _) _)) (by simp only [List.length_nil, Nat.zero_add]; skip; unfold maxLen; omega) (by simp only [List.length_nil, Nat.zero_add]; skip; omega) (by simp) ?_; intro v5 w5 o5 k5; have g5 : Kep w4.heap.size w4 w5 := (kep_more (Kep.refl _ _) _).trans k5; replace l1 := l1.kep g5; replace own1 := own1.kep g5; replace gg := kep_next gg g5; have mine1 : Sq ctv 5 w5 v5 C := own_sq ctv_len o5; clear o5 k5)
    | ((with_reducible refine (PS.out _ _ own1 _ mine1).mono ?_); rintro e w7 ⟨v7, rfl, -, g7⟩; replace l1 := l1.kep g7; replace own1 := own1.kep g7; replace mine1 := mine1.kep g7; replace gg := kep_next gg g7))
  have HL := Lib.hid l1
  have HO := Lib.hid own1
  have HM := Lib.hid mine1
  have G0 := Lib.hid gg
  obtain ⟨bc, cc, rfl, hcc⟩ := HC.out
  have HCE := Lib.hid hcc
  obtain ⟨bm, cm, rfl, hcm⟩ := HM.out
  have HME := Lib.hid hcm
  clear hcc hcm gg l1 own1 mine1
  generalize hnc : C.length = nc at *
  have HN := Lib.hid hnc
  clear hnc
  go_loopw [9] (fun i wr => ∃ k : Nat, k ≤ nc ∧ i = .int .i64 k ∧ ∃ j, wr = w7.drewN j) (fun i _ => nc - (RowKit.intOf i).toNat)
  case atStart => exact ⟨0, by omega, rfl, 0, rfl⟩
  case round =>
    obtain ⟨k, hk, rfl, j, rfl⟩ := hrel
    by_cases hlt : k < nc
    · have hb : C[k]? = some (C[k]'(by rw [HN.out]; exact hlt)) := List.getElem?_eq_getElem _
      generalize C[k]'(by rw [HN.out]; exact hlt) = c at hb
      obtain ⟨g1, o1, rfl, q1⟩ := HME.out k c hb
      obtain ⟨g2, o2, rfl, q2⟩ := HCE.out k c hb
      have f0 : w7.cell? ⟨g1, o1 + k * 5, none⟩ = some (.int .u32 c.lo) := q1 0 _ rfl
      have f1 : w7.cell? ⟨g1, o1 + k * 5 + 1, none⟩ = some (.int .u32 c.hi) := q1 1 _ rfl
      have f2 : w7.cell? ⟨g1, o1 + k * 5 + 2, none⟩ = some (.int .i32 c.nx) := q1 2 _ rfl
      have f3 : w7.cell? ⟨g1, o1 + k * 5 + 3, none⟩ = some (.int .i32 c.ny) := q1 3 _ rfl
      have f4 : w7.cell? ⟨g1, o1 + k * 5 + 4, none⟩ = some (.int .i32 c.dp) := q1 4 _ rfl
      have h0 : w7.cell? ⟨g2, o2 + k * 5, none⟩ = some (.int .u32 c.lo) := G0.out.all (q2 0 _ rfl)
      have h1 : w7.cell? ⟨g2, o2 + k * 5 + 1, none⟩ = some (.int .u32 c.hi) := G0.out.all (q2 1 _ rfl)
      have h2 : w7.cell? ⟨g2, o2 + k * 5 + 2, none⟩ = some (.int .i32 c.nx) := G0.out.all (q2 2 _ rfl)
      have h3 : w7.cell? ⟨g2, o2 + k * 5 + 3, none⟩ = some (.int .i32 c.ny) := G0.out.all (q2 3 _ rfl)
      have h4 : w7.cell? ⟨g2, o2 + k * 5 + 4, none⟩ = some (.int .i32 c.dp) := G0.out.all (q2 4 _ rfl)
      have v1 := fun w => ct_ncm8 c.lo c.hi c.nx c.ny c.dp w
      clear hb q1 q2
      go_wp2_with fail
      go_quiet (fail)
      go_wp2_with fail
      go_roundw
      case rel => exact ⟨k + 1, by omega, by go_num, _, rfl⟩
      case measure => simp [RowKit.intOf]; omega
    · obtain rfl : k = nc := by omega
      go_wp2_with ((with_reducible refine (SM.out _ _ _ (HO.out.kep (kep_drewN (Kep.refl _ _) _)) (HL.out.kep (kep_drewN (Kep.refl _ _) _))).mono ?_); rintro e w8 ⟨rfl, g8⟩)
      go_ret
      exact ⟨rfl, kep_next (kep_drewN G0.out _) g8⟩
/-- The law CorrectKeeps. -/
theorem ckl_law (O : SOps) (AW : SAwake)  (L : List Bd) (v : Value) (w : World) (hq : Lst w v L) (C : List Ct) (l : Value) (hc : Sq ctv 5 w l C) (HF : ∀ x ∈ L, Fits x) : Calls Try.prog 6 #[v, l] w fun e w' => e = .returned (.bool true) ∧ Kep w.heap.size w w' := by
  cases hvw : viwB L
  · exact ckl_bad (Lib.hid AW)  L v w hq C l hc hvw
  · cases hr : rgtS (sortL L) C
    · exact ckl_not (Lib.hid AW)  L v w hq C l hc (Lib.hid HF) hvw hr
    · exact ckl_ok O (Lib.hid AW)  L v w hq C l hc (Lib.hid HF) hvw hr
end Go.Proofs.Ytlbbacmpdlghaaa
