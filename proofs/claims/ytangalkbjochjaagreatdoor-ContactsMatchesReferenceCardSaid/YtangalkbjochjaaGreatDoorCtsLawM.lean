/-
  Package contacts: the law ContactsMatchesReference.
-/
import Derived.Test.YtangalkbjochjaaGreatDoorCtsCon
import Derived.Deep.DeepCutAuto
import Derived.Deep.QuietTactic
import Derived.BigQuiet
namespace Go.Proofs.YtangalkbjochjaaGreatDoor
open Go.RowKit Go.Lib

set_option maxRecDepth 100000 in
set_option maxHeartbeats 2000000 in
theorem cml_bad (AW : Hid CAwake) (key : Int) (L : List Bd) (v : Value) (w : World) (F0 : Fac w) (hq : Lst w v L) (vm : Value) (hvw : viwB L = false) : Calls Tryz.prog 3 #[v, vm, .int .u32 key] w fun e w' => e = .returned (.bool true) ∧ Kep w.heap.size w w' := by
  obtain ⟨base, cap, rfl⟩ := hq.shape
  have HQ := Lib.hid hq
  clear hq
  have VW : Hid (∀ v w, Lst w v L → Calls Tryz.prog 8 #[v] w fun e w' => ∃ v', e = .returned (.tuple #[v', .bool false]) ∧ Lst w' v' (if L.length ≤ 40 then sortL L else []) ∧ Kep w.heap.size w w') := Lib.hid (fun v w h => (rvw L v w h).mono fun e w' ⟨v', h1, h2, h3⟩ => ⟨v', by rw [h1]; rw [hvw], h2.1, h3⟩)
  go_enter Tryz.func3, Tryz.ntmps3
  go_wp2_with (first
    | ((with_reducible refine (VW.out _ _ (HQ.out.kep (Kep.refl _ _))).mono ?_); rintro e w1 ⟨v1, rfl, l1, g1⟩
       have gg := kep_next (Kep.refl _ _) g1)
    | ((with_reducible refine (AW.out _ (F0.kep (by (repeat (first | with_reducible assumption | refine kep_more ?_ _ | refine kep_drew ?_ | exact Kep.refl _ _))))).mono ?_); rintro e w2 ⟨rfl, g2⟩
       replace gg := kep_next gg g2
       replace l1 := l1.kep g2))
  go_ret
  exact ⟨rfl, gg⟩
set_option maxRecDepth 100000 in
set_option maxHeartbeats 2000000 in
theorem cml_many (AW : Hid CAwake) (key : Int) (L : List Bd) (v : Value) (w : World) (F0 : Fac w) (hq : Lst w v L) (M : List Ct) (vm : Value) (hqm : Sq ctv 5 w vm M) (HF : Hid (∀ x ∈ L, Fits x)) (hvw : viwB L = true) (hmm : 200 < M.length) : Calls Tryz.prog 3 #[v, vm, .int .u32 key] w fun e w' => e = .returned (.bool true) ∧ Kep w.heap.size w w' := by
  obtain ⟨base, cap, rfl⟩ := hq.shape
  have HQ := Lib.hid hq
  clear hq
  have VW : Hid (∀ v w, Lst w v L → Calls Tryz.prog 8 #[v] w fun e w' => ∃ v', e = .returned (.tuple #[v', .bool true]) ∧ Lst w' v' (sortL L) ∧ Kep w.heap.size w w') := Lib.hid (fun v w h => (rvw L v w h).mono fun e w' ⟨v', h1, h2, h3⟩ => ⟨v', by rw [h1]; rw [hvw], by have := h2.1; rw [if_pos (vw_of hvw HF.out).1] at this; exact this, h3⟩)
  have HVW := Lib.hid (vw_of hvw HF.out).2.2
  obtain ⟨A, hA⟩ : ∃ A, A = sortL L := ⟨_, rfl⟩
  rw [← hA] at VW HVW
  obtain ⟨bm, cm, rfl, hcm⟩ := hqm
  have HCM := Lib.hid hcm
  clear hcm
  clear HCM
  have k1 : decide ((200 : Int) < (M.length : Int)) = true := decide_eq_true (by omega)
  go_enter Tryz.func3, Tryz.ntmps3
  go_wp2_with (first
    | ((with_reducible refine (VW.out _ _ (HQ.out.kep (Kep.refl _ _))).mono ?_); rintro e w1 ⟨v1, rfl, l1, g1⟩
       have gg := kep_next (Kep.refl _ _) g1)
    | ((with_reducible refine (AW.out _ (F0.kep (by (repeat (first | with_reducible assumption | refine kep_more ?_ _ | refine kep_drew ?_ | exact Kep.refl _ _))))).mono ?_); rintro e w2 ⟨rfl, g2⟩
       replace gg := kep_next gg g2
       replace l1 := l1.kep g2))
  go_ret
  exact ⟨rfl, gg⟩
set_option maxRecDepth 100000 in
set_option maxHeartbeats 8000000 in
theorem cml_none (O : COps) (AW : Hid CAwake) (key : Int) (L : List Bd) (v : Value) (w : World) (F0 : Fac w) (hq : Lst w v L) (M : List Ct) (vm : Value) (hqm : Sq ctv 5 w vm M) (hrm : Rmy vm) (HF : Hid (∀ x ∈ L, Fits x)) (hvw : viwB L = true) (hmm : M.length ≤ 200) (h0 : decide (0 < M.length) = false) : Calls Tryz.prog 3 #[v, vm, .int .u32 key] w fun e w' => e = .returned (.bool true) ∧ Kep w.heap.size w w' := by
  obtain ⟨base, cap, rfl⟩ := hq.shape
  have HQ := Lib.hid hq
  clear hq
  have VW : Hid (∀ v w, Lst w v L → Calls Tryz.prog 8 #[v] w fun e w' => ∃ v', e = .returned (.tuple #[v', .bool true]) ∧ Lst w' v' (sortL L) ∧ Kep w.heap.size w w') := Lib.hid (fun v w h => (rvw L v w h).mono fun e w' ⟨v', h1, h2, h3⟩ => ⟨v', by rw [h1]; rw [hvw], by have := h2.1; rw [if_pos (vw_of hvw HF.out).1] at this; exact this, h3⟩)
  have HVW := Lib.hid (vw_of hvw HF.out).2.2
  obtain ⟨A, hA⟩ : ∃ A, A = sortL L := ⟨_, rfl⟩
  rw [← hA] at VW HVW
  have HQM := Lib.hid hqm
  obtain ⟨bm, cm, rfl, hcm⟩ := hqm
  have HCM := Lib.hid hcm
  clear hcm
  have k1 : decide ((200 : Int) < (M.length : Int)) = false := decide_eq_false (by omega)
  have CD := Lib.hid (fun w h => (show Calls Tryz.prog 11 #[.slice bm M.length cm] w fun e w' => e = .returned (.tuple #[.agg #[.int .u32 (deepC M).lo, .int .u32 (deepC M).hi, .int .i32 (deepC M).nx, .int .i32 (deepC M).ny, .int .i32 (deepC M).dp], .bool false]) ∧ Kep w.heap.size w w' by rw [← h0]; exact O.deep _ M w h hrm (by omega)))
  have HDE := Lib.hid h0
  clear hrm
  generalize hnm : M.length = nm at *
  have HNM := Lib.hid hnm
  clear hnm
  have hn0 : nm = 0 := by
    have := of_decide_eq_false HDE.out
    omega
  subst hn0
  have hM0 : M = [] := List.length_eq_zero_iff.1 HNM.out
  have vneq := fun w => ct_ncmp 0 0 0 0 0 w
  have hD0 : deepC M = ⟨0, 0, 0, 0, 0⟩ := by rw [hM0]; rfl
  rw [hD0] at CD
  dsimp only at CD
  clear h0 hD0
  go_enter Tryz.func3, Tryz.ntmps3
  go_wp2_with (first
    | ((with_reducible refine (VW.out _ _ (HQ.out.kep (Kep.refl _ _))).mono ?_); rintro e w1 ⟨v1, rfl, l1, g1⟩
       have gg := kep_next (Kep.refl _ _) g1)
    | ((with_reducible refine (AW.out _ (F0.kep (by (repeat (first | with_reducible assumption | refine kep_more ?_ _ | refine kep_drew ?_ | exact Kep.refl _ _))))).mono ?_); rintro e w2 ⟨rfl, g2⟩
       replace gg := kep_next gg g2
       replace l1 := l1.kep g2)
    | ((with_reducible refine (O.all _ A _ (F0.kep gg) l1 HVW.out).mono ?_); rintro e w3 ⟨v3, n3, rfl, ⟨q3, _, _⟩, g3⟩
       replace gg := kep_next gg g3
       replace l1 := l1.kep g3)
    | ((with_reducible refine (CD.out _ (HQM.out.kep gg)).mono ?_); rintro e w4 ⟨rfl, g4⟩
       replace gg := kep_next gg g4
       replace l1 := l1.kep g4
       replace q3 := q3.kep g4))
  obtain ⟨W5, hW5⟩ : ∃ x, x = w4.alloc (.cells #[.int .u32 0, .int .u32 0, .int .i32 0, .int .i32 0, .int .i32 0] 35) := ⟨_, rfl⟩
  rw [← hW5]
  have kW5 : Kep w4.heap.size w4 W5 := by rw [hW5]; exact kep_more (Kep.refl _ _) _
  have d0 : W5.cell? ⟨w4.heap.size, 0, none⟩ = some (.int .u32 0) := by rw [hW5, World.cell?_alloc_at _ _ _ _ (by simp)]; rfl
  have d1 : W5.cell? ⟨w4.heap.size, 1, none⟩ = some (.int .u32 0) := by rw [hW5, World.cell?_alloc_at _ _ _ _ (by simp)]; rfl
  have d2 : W5.cell? ⟨w4.heap.size, 2, none⟩ = some (.int .i32 0) := by rw [hW5, World.cell?_alloc_at _ _ _ _ (by simp)]; rfl
  have d3 : W5.cell? ⟨w4.heap.size, 3, none⟩ = some (.int .i32 0) := by rw [hW5, World.cell?_alloc_at _ _ _ _ (by simp)]; rfl
  have d4 : W5.cell? ⟨w4.heap.size, 4, none⟩ = some (.int .i32 0) := by rw [hW5, World.cell?_alloc_at _ _ _ _ (by simp)]; rfl
  replace gg := kep_next gg kW5
  replace l1 := l1.kep kW5
  replace q3 := q3.kep kW5
  have hl0 : M.length = 0 := HNM.out
  clear hW5 kW5
  go_loopw [13, 14] (fun b i wr => b = .int .i64 0 ∧ i = .int .i64 0 ∧ wr = W5) (fun _ _ _ => 0)
  case atStart => exact ⟨rfl, rfl, rfl⟩
  case round =>
    obtain ⟨rfl, rfl, rfl⟩ := hrel
    go_wp2_with fail
    have ld := l1.kep (kep_drew (Kep.refl _ _))
    have qd := q3.kep (kep_drew (Kep.refl _ _))
    have lm := (HQM.out.kep gg).kep (kep_drew (Kep.refl _ _))
    have HPA := Lib.hid (rka A HVW.out.len HVW.out.asc (Lib.hid (okc_of HVW.out)))
    have HPW := Lib.hid (rkw M (by have := HNM.out; omega) key)
    have hpm := cons_max HVW.out.len
    have hwm := withC_len M key
    have hml : M.length ≤ 1000 := by have := HNM.out; omega
    go_wp2_with fail
    refine wp_region_noPanic ?_
    refine wp_region_held_drew (S := (fun w' => w'.cell? ⟨w4.heap.size, 0, none⟩ = some (.int .u32 0) ∧ w'.cell? ⟨w4.heap.size, 1, none⟩ = some (.int .u32 0) ∧ w'.cell? ⟨w4.heap.size, 2, none⟩ = some (.int .i32 0) ∧ w'.cell? ⟨w4.heap.size, 3, none⟩ = some (.int .i32 0) ∧ w'.cell? ⟨w4.heap.size, 4, none⟩ = some (.int .i32 0) ∧ Kep w.heap.size w w')) (by kernel_rfl) (⟨by rw [World.cell?_drew]; exact d0, by rw [World.cell?_drew]; exact d1, by rw [World.cell?_drew]; exact d2, by rw [World.cell?_drew]; exact d3, by rw [World.cell?_drew]; exact d4, kep_drew gg⟩) (fun hH => ?_)
    refine rtk 0 (oi := ⟨some 74, .move (.tmp 9), _, _, _, none⟩) (v := ?_) rfl ?_ hH ?_
    rotate_left
    · (intro w hSw; (try dsimp only at hSw); go_simp; (try with_reducible rfl))
    refine rtk 1 (oi := ⟨some 75, .move (.tmp 7), _, _, _, none⟩) (v := ?_) rfl ?_ hH ?_
    rotate_left
    · (intro w hSw; (try dsimp only at hSw); go_simp; (try with_reducible rfl))
    try simp only [Act.put, List.setIfInBounds_toArray, List.set_cons_zero, List.set_cons_succ]
    refine wpAnyH_ready (rs := [2]) (by kernel_rfl) (by simp) ?_
    refine AllReadyH.cons (o := ⟨some 76, .call { callee := .value (.func 13), args := #[.tmp 75], argTypes := #[22] }, _, _, _, none⟩) rfl (fun K hK => ?_) AllReadyH.nil
    go_simp
    refine (HPA.out _ _ ld).mono ?_; rintro e v14_2 ⟨c2, rfl, q4, g⟩
    replace ld := ld.kep g
    replace lm := lm.kep g
    replace qd := qd.kep g
    refine hK.out _ _ (by (try dsimp only); (go_split_ands; exact ⟨Kep.all g (by assumption), Kep.all g (by assumption), Kep.all g (by assumption), Kep.all g (by assumption), Kep.all g (by assumption), kep_next (by assumption) g⟩)) (fun hH2 => ?_)
    clear hK K hH; have hH := hH2; clear hH2
    try simp only [Act.put, List.setIfInBounds_toArray, List.set_cons_zero, List.set_cons_succ]
    refine wpAnyH_ready (rs := [3]) (by kernel_rfl) (by simp) ?_
    refine AllReadyH.cons (o := ⟨some 77, .call { callee := .value (.func 12), args := #[.tmp 74, .tmp 76], argTypes := #[23, 23] }, _, _, _, none⟩) rfl (fun K hK => ?_) AllReadyH.nil
    go_simp
    refine (rks (consL A) (by omega) _ _ _ qd q4).mono ?_; rintro e v14_3 ⟨rfl, g⟩
    replace ld := ld.kep g
    replace lm := lm.kep g
    refine hK.out _ _ (by (try dsimp only); (go_split_ands; exact ⟨Kep.all g (by assumption), Kep.all g (by assumption), Kep.all g (by assumption), Kep.all g (by assumption), Kep.all g (by assumption), kep_next (by assumption) g⟩)) (fun hH2 => ?_)
    clear hK K hH; have hH := hH2; clear hH2
    refine rtk 4 (oi := ⟨some 78, .move (.tmp 77), _, _, _, none⟩) (v := ?_) rfl ?_ hH ?_
    rotate_left
    · (intro w hSw; (try dsimp only at hSw); go_simp; (try with_reducible rfl))
    try simp only [Act.put, List.setIfInBounds_toArray, List.set_cons_zero, List.set_cons_succ]
    refine rtk 5 (oi := ⟨some 79, .move (.tmp 1), _, _, _, some (4, true)⟩) (v := ?_) rfl ?_ hH ?_
    rotate_left
    · (intro w hSw; (try dsimp only at hSw); go_simp; (try with_reducible rfl))
    try simp only [Act.put, List.setIfInBounds_toArray, List.set_cons_zero, List.set_cons_succ]
    refine rtk 6 (oi := ⟨some 80, .move (.tmp 2), _, _, _, some (4, true)⟩) (v := ?_) rfl ?_ hH ?_
    rotate_left
    · (intro w hSw; (try dsimp only at hSw); go_simp; (try with_reducible rfl))
    try simp only [Act.put, List.setIfInBounds_toArray, List.set_cons_zero, List.set_cons_succ]
    refine rtk 8 (oi := ⟨some 82, .move (.tmp 1), _, _, _, some (4, true)⟩) (v := ?_) rfl ?_ hH ?_
    rotate_left
    · (intro w hSw; (try dsimp only at hSw); go_simp; (try with_reducible rfl))
    try simp only [Act.put, List.setIfInBounds_toArray, List.set_cons_zero, List.set_cons_succ]
    refine rtk 9 (oi := ⟨some 83, .move (.tmp 2), _, _, _, some (4, true)⟩) (v := ?_) rfl ?_ hH ?_
    rotate_left
    · (intro w hSw; (try dsimp only at hSw); go_simp; (try with_reducible rfl))
    try simp only [Act.put, List.setIfInBounds_toArray, List.set_cons_zero, List.set_cons_succ]
    refine wpAnyH_ready (rs := [7]) (by kernel_rfl) (by simp) ?_
    refine AllReadyH.cons (o := ⟨some 81, .call { callee := .value (.func 14), args := #[.tmp 79, .tmp 80], argTypes := #[23, 24] }, _, _, _, some (4, true)⟩) rfl (fun K hK => ?_) AllReadyH.nil
    go_simp
    refine (O.with_ _ M key _ lm hml).mono ?_; rintro e v14_7 ⟨k1, rfl, qk, g⟩
    replace ld := ld.kep g
    replace lm := lm.kep g
    refine hK.out _ _ (by (try dsimp only); (go_split_ands; exact ⟨Kep.all g (by assumption), Kep.all g (by assumption), Kep.all g (by assumption), Kep.all g (by assumption), Kep.all g (by assumption), kep_next (by assumption) g⟩)) (fun hH2 => ?_)
    clear hK K hH; have hH := hH2; clear hH2
    try simp only [Act.put, List.setIfInBounds_toArray, List.set_cons_zero, List.set_cons_succ]
    refine wpAnyH_ready (rs := [10]) (by kernel_rfl) (by simp) ?_
    refine AllReadyH.cons (o := ⟨some 84, .call { callee := .value (.func 15), args := #[.tmp 82, .tmp 83], argTypes := #[23, 24] }, _, _, _, some (4, true)⟩) rfl (fun K hK => ?_) AllReadyH.nil
    go_simp
    refine (HPW.out _ _ lm).mono ?_; rintro e v14_10 ⟨k2, rfl, qm, g⟩
    replace ld := ld.kep g
    replace qk := qk.kep g
    refine hK.out _ _ (by (try dsimp only); (go_split_ands; exact ⟨Kep.all g (by assumption), Kep.all g (by assumption), Kep.all g (by assumption), Kep.all g (by assumption), Kep.all g (by assumption), kep_next (by assumption) g⟩)) (fun hH2 => ?_)
    clear hK K hH; have hH := hH2; clear hH2
    try simp only [Act.put, List.setIfInBounds_toArray, List.set_cons_zero, List.set_cons_succ]
    refine wpAnyH_ready (rs := [11]) (by kernel_rfl) (by simp) ?_
    refine AllReadyH.cons (o := ⟨some 85, .call { callee := .value (.func 12), args := #[.tmp 81, .tmp 84], argTypes := #[23, 23] }, _, _, _, some (4, true)⟩) rfl (fun K hK => ?_) AllReadyH.nil
    go_simp
    refine (rks (withC M key) (by omega) _ _ _ qk qm).mono ?_; rintro e v14_11 ⟨rfl, g⟩
    refine hK.out _ _ (by (try dsimp only); (go_split_ands; exact ⟨Kep.all g (by assumption), Kep.all g (by assumption), Kep.all g (by assumption), Kep.all g (by assumption), Kep.all g (by assumption), kep_next (by assumption) g⟩)) (fun hH2 => ?_)
    clear hK K hH; have hH := hH2; clear hH2
    refine rtk 12 (oi := ⟨some 86, .pick (.tmp 78) (.tmp 85) (.const (Value.bool false)), _, _, _, none⟩) (v := ?_) rfl ?_ hH ?_
    rotate_left
    · (intro w hSw; (try dsimp only at hSw); go_simp; (try with_reducible rfl))
    refine rtk 13 (oi := ⟨some 87, .move (.tmp 86), _, _, _, none⟩) (v := ?_) rfl ?_ hH ?_
    rotate_left
    · (intro w hSw; (try dsimp only at hSw); go_simp; (try with_reducible rfl))
    try simp only [Act.put, List.setIfInBounds_toArray, List.set_cons_zero, List.set_cons_succ]
    refine rtk 14 (oi := ⟨some 88, .move (.tmp 12), _, _, _, some (13, true)⟩) (v := ?_) rfl ?_ hH ?_
    rotate_left
    · (intro w hSw; (try dsimp only at hSw); go_simp; (try with_reducible rfl))
    try simp only [Act.put, List.setIfInBounds_toArray, List.set_cons_zero, List.set_cons_succ]
    refine rtk 15 (oi := ⟨some 89, .unOp .not 4 (.tmp 88), _, _, _, some (13, true)⟩) (v := ?_) rfl ?_ hH ?_
    rotate_left
    · (intro w hSw; (try dsimp only at hSw); go_simp; (try with_reducible rfl))
    try simp only [Act.put, List.setIfInBounds_toArray, List.set_cons_zero, List.set_cons_succ]
    refine rtk 16 (oi := ⟨some 90, .move (.tmp 89), _, _, _, some (13, true)⟩) (v := ?_) rfl ?_ hH ?_
    rotate_left
    · (intro w hSw; (try dsimp only at hSw); go_simp; (try with_reducible rfl))
    try simp only [Act.put, List.setIfInBounds_toArray, List.set_cons_zero, List.set_cons_succ]
    refine rtu 17 (oi := ⟨some 91, .load 35 (.tmp 11), _, _, _, some (16, false)⟩) rfl hH ?_
    try simp only [Act.put, List.setIfInBounds_toArray, List.set_cons_zero, List.set_cons_succ]
    refine rtu 18 (oi := ⟨some 92, .move (.tmp 1), _, _, _, some (16, false)⟩) rfl hH ?_
    try simp only [Act.put, List.setIfInBounds_toArray, List.set_cons_zero, List.set_cons_succ]
    refine rtu 19 (oi := ⟨some 93, .move (.tmp 13), _, _, _, some (16, false)⟩) rfl hH ?_
    try simp only [Act.put, List.setIfInBounds_toArray, List.set_cons_zero, List.set_cons_succ]
    refine rtu 20 (oi := ⟨some 94, .indexAddr 23 (.tmp 92) (.tmp 93), _, _, _, some (16, false)⟩) rfl hH ?_
    try simp only [Act.put, List.setIfInBounds_toArray, List.set_cons_zero, List.set_cons_succ]
    refine rtu 21 (oi := ⟨some 95, .load 35 (.tmp 94), _, _, _, some (16, false)⟩) rfl hH ?_
    try simp only [Act.put, List.setIfInBounds_toArray, List.set_cons_zero, List.set_cons_succ]
    refine rtu 22 (oi := ⟨some 96, .binOp .eql 35 (.tmp 91) (.tmp 95) 35, _, _, _, some (16, false)⟩) rfl hH ?_
    try simp only [Act.put, List.setIfInBounds_toArray, List.set_cons_zero, List.set_cons_succ]
    refine rtk 23 (oi := ⟨some 97, .pick (.tmp 90) (.const (Value.bool true)) (.tmp 96), _, _, _, some (13, true)⟩) (v := ?_) rfl ?_ hH ?_
    rotate_left
    · (intro w hSw; (try dsimp only at hSw); go_simp; (try with_reducible rfl))
    refine rtk 24 (oi := ⟨some 98, .pick (.tmp 87) (.tmp 97) (.const (Value.bool false)), _, _, _, none⟩) (v := ?_) rfl ?_ hH ?_
    rotate_left
    · (intro w hSw; (try dsimp only at hSw); go_simp; (try with_reducible rfl))
    refine rtk 25 (oi := ⟨some 6, .assign (.tmp 98), _, _, _, none⟩) (v := ?_) rfl ?_ hH ?_
    rotate_left
    · (intro w hSw; (try dsimp only at hSw); go_simp; (try with_reducible rfl))
    try simp only [Act.put, List.setIfInBounds_toArray, List.set_cons_zero, List.set_cons_succ]
    refine wpAnyH_done (by kernel_rfl) ?_ _
    refine NoPanic.normal ?_
    clear d0 d1 d2 d3 d4 gg
    obtain ⟨d0, d1, d2, d3, d4, gg⟩ := hH
    go_wp2_with fail
    go_ret
    exact ⟨rfl, gg⟩
set_option maxRecDepth 100000 in
set_option maxHeartbeats 8000000 in
theorem cml_some (O : COps) (AW : Hid CAwake) (key : Int) (L : List Bd) (v : Value) (w : World) (F0 : Fac w) (hq : Lst w v L) (M : List Ct) (vm : Value) (hqm : Sq ctv 5 w vm M) (hrm : Rmy vm) (HF : Hid (∀ x ∈ L, Fits x)) (hvw : viwB L = true) (hmm : M.length ≤ 200) (c0 : Ct) (hc0 : M[0]? = some c0) (h0 : decide (0 < M.length) = true) : Calls Tryz.prog 3 #[v, vm, .int .u32 key] w fun e w' => e = .returned (.bool true) ∧ Kep w.heap.size w w' := by
  obtain ⟨base, cap, rfl⟩ := hq.shape
  have HQ := Lib.hid hq
  clear hq
  have VW : Hid (∀ v w, Lst w v L → Calls Tryz.prog 8 #[v] w fun e w' => ∃ v', e = .returned (.tuple #[v', .bool true]) ∧ Lst w' v' (sortL L) ∧ Kep w.heap.size w w') := Lib.hid (fun v w h => (rvw L v w h).mono fun e w' ⟨v', h1, h2, h3⟩ => ⟨v', by rw [h1]; rw [hvw], by have := h2.1; rw [if_pos (vw_of hvw HF.out).1] at this; exact this, h3⟩)
  have HVW := Lib.hid (vw_of hvw HF.out).2.2
  obtain ⟨A, hA⟩ : ∃ A, A = sortL L := ⟨_, rfl⟩
  rw [← hA] at VW HVW
  have HQM := Lib.hid hqm
  obtain ⟨bm, cm, rfl, hcm⟩ := hqm
  obtain ⟨gm, om, rfl, _⟩ := hcm 0 c0 hc0
  have HCM : Hid (∀ (k : Nat) (x : Ct), M[k]? = some x → ∀ (i : Nat) (u : Value), (ctv x)[i]? = some u → w.cell? ⟨gm, om + k * 5 + i, none⟩ = some u) := Lib.hid fun k x hx => by
    obtain ⟨_, _, e, q⟩ := hcm k x hx
    injection e with e
    injection e with e1 e2
    subst e1 e2
    exact q
  clear hcm
  have k1 : decide ((200 : Int) < (M.length : Int)) = false := decide_eq_false (by omega)
  have CD := Lib.hid (fun w h => (show Calls Tryz.prog 11 #[.slice (some ⟨gm, om, none⟩) M.length cm] w fun e w' => e = .returned (.tuple #[.agg #[.int .u32 (deepC M).lo, .int .u32 (deepC M).hi, .int .i32 (deepC M).nx, .int .i32 (deepC M).ny, .int .i32 (deepC M).dp], .bool true]) ∧ Kep w.heap.size w w' by rw [← h0]; exact O.deep _ M w h hrm (by omega)))
  have HDE := Lib.hid h0
  clear hrm
  generalize hnm : M.length = nm at *
  have HNM := Lib.hid hnm
  clear hnm
  have HDC := Lib.hid (deep_eq hc0)
  have HC0 := Lib.hid hc0
  have hn0 : 0 < nm := by
    have := of_decide_eq_true HDE.out
    omega
  have k2 : decide ((0 : Int) < (nm : Int)) = true := decide_eq_true (by omega)
  clear h0 hc0
  go_enter Tryz.func3, Tryz.ntmps3
  go_wp2_with (first
    | ((with_reducible refine (VW.out _ _ (HQ.out.kep (Kep.refl _ _))).mono ?_); rintro e w1 ⟨v1, rfl, l1, g1⟩
       have gg := kep_next (Kep.refl _ _) g1)
    | ((with_reducible refine (AW.out _ (F0.kep (by (repeat (first | with_reducible assumption | refine kep_more ?_ _ | refine kep_drew ?_ | exact Kep.refl _ _))))).mono ?_); rintro e w2 ⟨rfl, g2⟩
       replace gg := kep_next gg g2
       replace l1 := l1.kep g2)
    | ((with_reducible refine (O.all _ A _ (F0.kep gg) l1 HVW.out).mono ?_); rintro e w3 ⟨v3, n3, rfl, ⟨q3, _, _⟩, g3⟩
       replace gg := kep_next gg g3
       replace l1 := l1.kep g3)
    | ((with_reducible refine (CD.out _ (HQM.out.kep gg)).mono ?_); rintro e w4 ⟨rfl, g4⟩
       replace gg := kep_next gg g4
       replace l1 := l1.kep g4
       replace q3 := q3.kep g4))
  obtain ⟨W5, hW5⟩ : ∃ x, x = w4.alloc (.cells #[.int .u32 (deepC M).lo, .int .u32 (deepC M).hi, .int .i32 (deepC M).nx, .int .i32 (deepC M).ny, .int .i32 (deepC M).dp] 35) := ⟨_, rfl⟩
  rw [← hW5]
  have kW5 : Kep w4.heap.size w4 W5 := by rw [hW5]; exact kep_more (Kep.refl _ _) _
  have d0 : W5.cell? ⟨w4.heap.size, 0, none⟩ = some (.int .u32 (deepC M).lo) := by rw [hW5, World.cell?_alloc_at _ _ _ _ (by simp)]; rfl
  have d1 : W5.cell? ⟨w4.heap.size, 1, none⟩ = some (.int .u32 (deepC M).hi) := by rw [hW5, World.cell?_alloc_at _ _ _ _ (by simp)]; rfl
  have d2 : W5.cell? ⟨w4.heap.size, 2, none⟩ = some (.int .i32 (deepC M).nx) := by rw [hW5, World.cell?_alloc_at _ _ _ _ (by simp)]; rfl
  have d3 : W5.cell? ⟨w4.heap.size, 3, none⟩ = some (.int .i32 (deepC M).ny) := by rw [hW5, World.cell?_alloc_at _ _ _ _ (by simp)]; rfl
  have d4 : W5.cell? ⟨w4.heap.size, 4, none⟩ = some (.int .i32 (deepC M).dp) := by rw [hW5, World.cell?_alloc_at _ _ _ _ (by simp)]; rfl
  replace gg := kep_next gg kW5
  replace l1 := l1.kep kW5
  replace q3 := q3.kep kW5
  clear hW5 kW5
  have G5 := Lib.hid gg
  have HL1 := Lib.hid l1
  have HQ3 := Lib.hid q3
  have HB5 : Hid (W5.cell? ⟨w4.heap.size, 0, none⟩ = some (.int .u32 (deepC M).lo) ∧ W5.cell? ⟨w4.heap.size, 1, none⟩ = some (.int .u32 (deepC M).hi) ∧ W5.cell? ⟨w4.heap.size, 2, none⟩ = some (.int .i32 (deepC M).nx) ∧ W5.cell? ⟨w4.heap.size, 3, none⟩ = some (.int .i32 (deepC M).ny) ∧ W5.cell? ⟨w4.heap.size, 4, none⟩ = some (.int .i32 (deepC M).dp)) := Lib.hid ⟨d0, d1, d2, d3, d4⟩
  clear gg l1 q3 d0 d1 d2 d3 d4
  generalize w4.heap.size = db at *
  go_loopw [13, 14] (fun b i wr => ∃ k j : Nat, k ≤ nm ∧ j < nm ∧ b = .int .i64 j ∧ i = .int .i64 k ∧ Hid (∃ x, M[j]? = some x ∧ x = (M.take k).foldl dpk c0) ∧ ∃ q, wr = W5.drewN q) (fun _ i _ => nm - (RowKit.intOf i).toNat)
  case atStart => exact ⟨0, 0, by omega, hn0, rfl, rfl, Lib.hid ⟨c0, HC0.out, rfl⟩, 0, rfl⟩
  case round =>
    obtain ⟨k, j, hk, hj, rfl, rfl, HP, q, rfl⟩ := hrel
    obtain ⟨y, hy, hye⟩ := HP.out
    have HY := Lib.hid hy
    have HYE := Lib.hid hye
    clear hy hye HP
    by_cases hlt : k < nm
    · have hb : M[k]? = some (M[k]'(by rw [HNM.out]; exact hlt)) := List.getElem?_eq_getElem _
      generalize M[k]'(by rw [HNM.out]; exact hlt) = x at hb
      have x4 : W5.cell? ⟨gm, om + k * 5 + 4, none⟩ = some (.int .i32 x.dp) := G5.out.all (HCM.out k x hb 4 _ rfl)
      have y4 : W5.cell? ⟨gm, om + j * 5 + 4, none⟩ = some (.int .i32 y.dp) := G5.out.all (HCM.out j y HY.out 4 _ rfl)
      have HFA := Lib.hid (fold_at (c := c0) hb)
      have HX := Lib.hid hb
      have jl : (j : Int) < (nm : Int) := by omega
      have j0 : (0 : Int) ≤ (j : Int) := by omega
      have kl : (k : Int) < (nm : Int) := by omega
      clear hb
      by_cases c : y.dp < x.dp
      · have z1 : decide (y.dp < x.dp) = true := decide_eq_true c
        have HE : Hid (x = (M.take (k + 1)).foldl dpk c0) := Lib.hid (by rw [HFA.out, ← HYE.out]; unfold dpk; rw [if_pos c])
        clear c
        go_wp2_with fail
        go_quiet (fail)
        go_wp2_with fail
        go_roundw
        case rel => exact ⟨k + 1, k, by omega, by omega, by go_num, by go_num, Lib.hid ⟨x, HX.out, HE.out⟩, _, rfl⟩
        case measure => simp [RowKit.intOf]; omega
      · have z1 : decide (y.dp < x.dp) = false := decide_eq_false c
        have HE : Hid (y = (M.take (k + 1)).foldl dpk c0) := Lib.hid (by rw [HFA.out, ← HYE.out]; unfold dpk; rw [if_neg c])
        clear c
        go_wp2_with fail
        go_quiet (fail)
        go_wp2_with fail
        go_roundw
        case rel => exact ⟨k + 1, j, by omega, by omega, by go_num, by go_num, Lib.hid ⟨y, HY.out, HE.out⟩, _, rfl⟩
        case measure => simp [RowKit.intOf]; omega
    · obtain rfl : k = nm := by omega
      have hyd : y = deepC M := by
        rw [HYE.out, List.take_of_length_le (by rw [HNM.out]; omega), HDC.out]
      subst hyd
      obtain ⟨W6, hW6⟩ : ∃ x, x = W5.drewN q := ⟨_, rfl⟩
      rw [← hW6]
      have kW : Kep W5.heap.size W5 W6 := by rw [hW6]; exact kep_drewN (Kep.refl _ _) _
      clear hW6
      have gg := kep_next G5.out kW
      have l1 := HL1.out.kep kW
      have q3 := HQ3.out.kep kW
      have d0 := kW.all HB5.out.1
      have d1 := kW.all HB5.out.2.1
      have d2 := kW.all HB5.out.2.2.1
      have d3 := kW.all HB5.out.2.2.2.1
      have d4 := kW.all HB5.out.2.2.2.2
      have m0 : W6.cell? ⟨gm, om + j * 5, none⟩ = some (.int .u32 (deepC M).lo) := gg.all (HCM.out j _ HY.out 0 _ rfl)
      have m1 : W6.cell? ⟨gm, om + j * 5 + 1, none⟩ = some (.int .u32 (deepC M).hi) := gg.all (HCM.out j _ HY.out 1 _ rfl)
      have m2 : W6.cell? ⟨gm, om + j * 5 + 2, none⟩ = some (.int .i32 (deepC M).nx) := gg.all (HCM.out j _ HY.out 2 _ rfl)
      have m3 : W6.cell? ⟨gm, om + j * 5 + 3, none⟩ = some (.int .i32 (deepC M).ny) := gg.all (HCM.out j _ HY.out 3 _ rfl)
      have m4 : W6.cell? ⟨gm, om + j * 5 + 4, none⟩ = some (.int .i32 (deepC M).dp) := gg.all (HCM.out j _ HY.out 4 _ rfl)
      have jl : (j : Int) < (k : Int) := by omega
      have j0 : (0 : Int) ≤ (j : Int) := by omega
      clear HYE HY kW
      go_wp2_with fail
      have ld := l1.kep (kep_drew (Kep.refl _ _))
      have qd := q3.kep (kep_drew (Kep.refl _ _))
      have lm := (HQM.out.kep gg).kep (kep_drew (Kep.refl _ _))
      have HPA := Lib.hid (rka A HVW.out.len HVW.out.asc (Lib.hid (okc_of HVW.out)))
      have HPW := Lib.hid (rkw M (by have := HNM.out; omega) key)
      have hpm := cons_max HVW.out.len
      have hwm := withC_len M key
      have hml : M.length ≤ 1000 := by have := HNM.out; omega
      have veq := fun w => ct_eqs (deepC M).lo (deepC M).hi (deepC M).nx (deepC M).ny (deepC M).dp w
      go_wp2_with fail
      refine wp_region_noPanic ?_
      refine wp_region_held_drew (S := (fun w' => w'.cell? ⟨db, 0, none⟩ = some (.int .u32 (deepC M).lo) ∧ w'.cell? ⟨db, 1, none⟩ = some (.int .u32 (deepC M).hi) ∧ w'.cell? ⟨db, 2, none⟩ = some (.int .i32 (deepC M).nx) ∧ w'.cell? ⟨db, 3, none⟩ = some (.int .i32 (deepC M).ny) ∧ w'.cell? ⟨db, 4, none⟩ = some (.int .i32 (deepC M).dp) ∧ w'.cell? ⟨gm, om + j * 5, none⟩ = some (.int .u32 (deepC M).lo) ∧ w'.cell? ⟨gm, om + j * 5 + 1, none⟩ = some (.int .u32 (deepC M).hi) ∧ w'.cell? ⟨gm, om + j * 5 + 2, none⟩ = some (.int .i32 (deepC M).nx) ∧ w'.cell? ⟨gm, om + j * 5 + 3, none⟩ = some (.int .i32 (deepC M).ny) ∧ w'.cell? ⟨gm, om + j * 5 + 4, none⟩ = some (.int .i32 (deepC M).dp) ∧ Kep w.heap.size w w')) (by kernel_rfl) (⟨by rw [World.cell?_drew]; exact d0, by rw [World.cell?_drew]; exact d1, by rw [World.cell?_drew]; exact d2, by rw [World.cell?_drew]; exact d3, by rw [World.cell?_drew]; exact d4, by rw [World.cell?_drew]; exact m0, by rw [World.cell?_drew]; exact m1, by rw [World.cell?_drew]; exact m2, by rw [World.cell?_drew]; exact m3, by rw [World.cell?_drew]; exact m4, kep_drew gg⟩) (fun hH => ?_)
      refine rtk 0 (oi := ⟨some 74, .move (.tmp 9), _, _, _, none⟩) (v := ?_) rfl ?_ hH ?_
      rotate_left
      · (intro w hSw; (try dsimp only at hSw); go_simp; (try with_reducible rfl))
      refine rtk 1 (oi := ⟨some 75, .move (.tmp 7), _, _, _, none⟩) (v := ?_) rfl ?_ hH ?_
      rotate_left
      · (intro w hSw; (try dsimp only at hSw); go_simp; (try with_reducible rfl))
      try simp only [Act.put, List.setIfInBounds_toArray, List.set_cons_zero, List.set_cons_succ]
      refine wpAnyH_ready (rs := [2]) (by kernel_rfl) (by simp) ?_
      refine AllReadyH.cons (o := ⟨some 76, .call { callee := .value (.func 13), args := #[.tmp 75], argTypes := #[22] }, _, _, _, none⟩) rfl (fun K hK => ?_) AllReadyH.nil
      go_simp
      refine (HPA.out _ _ ld).mono ?_; rintro e v14_2 ⟨c2, rfl, q4, g⟩
      replace ld := ld.kep g
      replace lm := lm.kep g
      replace qd := qd.kep g
      refine hK.out _ _ (by (try dsimp only); (go_split_ands; exact ⟨Kep.all g (by assumption), Kep.all g (by assumption), Kep.all g (by assumption), Kep.all g (by assumption), Kep.all g (by assumption), Kep.all g (by assumption), Kep.all g (by assumption), Kep.all g (by assumption), Kep.all g (by assumption), Kep.all g (by assumption), kep_next (by assumption) g⟩)) (fun hH2 => ?_)
      clear hK K hH; have hH := hH2; clear hH2
      try simp only [Act.put, List.setIfInBounds_toArray, List.set_cons_zero, List.set_cons_succ]
      refine wpAnyH_ready (rs := [3]) (by kernel_rfl) (by simp) ?_
      refine AllReadyH.cons (o := ⟨some 77, .call { callee := .value (.func 12), args := #[.tmp 74, .tmp 76], argTypes := #[23, 23] }, _, _, _, none⟩) rfl (fun K hK => ?_) AllReadyH.nil
      go_simp
      refine (rks (consL A) (by omega) _ _ _ qd q4).mono ?_; rintro e v14_3 ⟨rfl, g⟩
      replace ld := ld.kep g
      replace lm := lm.kep g
      refine hK.out _ _ (by (try dsimp only); (go_split_ands; exact ⟨Kep.all g (by assumption), Kep.all g (by assumption), Kep.all g (by assumption), Kep.all g (by assumption), Kep.all g (by assumption), Kep.all g (by assumption), Kep.all g (by assumption), Kep.all g (by assumption), Kep.all g (by assumption), Kep.all g (by assumption), kep_next (by assumption) g⟩)) (fun hH2 => ?_)
      clear hK K hH; have hH := hH2; clear hH2
      refine rtk 4 (oi := ⟨some 78, .move (.tmp 77), _, _, _, none⟩) (v := ?_) rfl ?_ hH ?_
      rotate_left
      · (intro w hSw; (try dsimp only at hSw); go_simp; (try with_reducible rfl))
      try simp only [Act.put, List.setIfInBounds_toArray, List.set_cons_zero, List.set_cons_succ]
      refine rtk 5 (oi := ⟨some 79, .move (.tmp 1), _, _, _, some (4, true)⟩) (v := ?_) rfl ?_ hH ?_
      rotate_left
      · (intro w hSw; (try dsimp only at hSw); go_simp; (try with_reducible rfl))
      try simp only [Act.put, List.setIfInBounds_toArray, List.set_cons_zero, List.set_cons_succ]
      refine rtk 6 (oi := ⟨some 80, .move (.tmp 2), _, _, _, some (4, true)⟩) (v := ?_) rfl ?_ hH ?_
      rotate_left
      · (intro w hSw; (try dsimp only at hSw); go_simp; (try with_reducible rfl))
      try simp only [Act.put, List.setIfInBounds_toArray, List.set_cons_zero, List.set_cons_succ]
      refine rtk 8 (oi := ⟨some 82, .move (.tmp 1), _, _, _, some (4, true)⟩) (v := ?_) rfl ?_ hH ?_
      rotate_left
      · (intro w hSw; (try dsimp only at hSw); go_simp; (try with_reducible rfl))
      try simp only [Act.put, List.setIfInBounds_toArray, List.set_cons_zero, List.set_cons_succ]
      refine rtk 9 (oi := ⟨some 83, .move (.tmp 2), _, _, _, some (4, true)⟩) (v := ?_) rfl ?_ hH ?_
      rotate_left
      · (intro w hSw; (try dsimp only at hSw); go_simp; (try with_reducible rfl))
      try simp only [Act.put, List.setIfInBounds_toArray, List.set_cons_zero, List.set_cons_succ]
      refine wpAnyH_ready (rs := [7]) (by kernel_rfl) (by simp) ?_
      refine AllReadyH.cons (o := ⟨some 81, .call { callee := .value (.func 14), args := #[.tmp 79, .tmp 80], argTypes := #[23, 24] }, _, _, _, some (4, true)⟩) rfl (fun K hK => ?_) AllReadyH.nil
      go_simp
      refine (O.with_ _ M key _ lm hml).mono ?_; rintro e v14_7 ⟨k1, rfl, qk, g⟩
      replace ld := ld.kep g
      replace lm := lm.kep g
      refine hK.out _ _ (by (try dsimp only); (go_split_ands; exact ⟨Kep.all g (by assumption), Kep.all g (by assumption), Kep.all g (by assumption), Kep.all g (by assumption), Kep.all g (by assumption), Kep.all g (by assumption), Kep.all g (by assumption), Kep.all g (by assumption), Kep.all g (by assumption), Kep.all g (by assumption), kep_next (by assumption) g⟩)) (fun hH2 => ?_)
      clear hK K hH; have hH := hH2; clear hH2
      try simp only [Act.put, List.setIfInBounds_toArray, List.set_cons_zero, List.set_cons_succ]
      refine wpAnyH_ready (rs := [10]) (by kernel_rfl) (by simp) ?_
      refine AllReadyH.cons (o := ⟨some 84, .call { callee := .value (.func 15), args := #[.tmp 82, .tmp 83], argTypes := #[23, 24] }, _, _, _, some (4, true)⟩) rfl (fun K hK => ?_) AllReadyH.nil
      go_simp
      refine (HPW.out _ _ lm).mono ?_; rintro e v14_10 ⟨k2, rfl, qm, g⟩
      replace ld := ld.kep g
      replace qk := qk.kep g
      refine hK.out _ _ (by (try dsimp only); (go_split_ands; exact ⟨Kep.all g (by assumption), Kep.all g (by assumption), Kep.all g (by assumption), Kep.all g (by assumption), Kep.all g (by assumption), Kep.all g (by assumption), Kep.all g (by assumption), Kep.all g (by assumption), Kep.all g (by assumption), Kep.all g (by assumption), kep_next (by assumption) g⟩)) (fun hH2 => ?_)
      clear hK K hH; have hH := hH2; clear hH2
      try simp only [Act.put, List.setIfInBounds_toArray, List.set_cons_zero, List.set_cons_succ]
      refine wpAnyH_ready (rs := [11]) (by kernel_rfl) (by simp) ?_
      refine AllReadyH.cons (o := ⟨some 85, .call { callee := .value (.func 12), args := #[.tmp 81, .tmp 84], argTypes := #[23, 23] }, _, _, _, some (4, true)⟩) rfl (fun K hK => ?_) AllReadyH.nil
      go_simp
      refine (rks (withC M key) (by omega) _ _ _ qk qm).mono ?_; rintro e v14_11 ⟨rfl, g⟩
      refine hK.out _ _ (by (try dsimp only); (go_split_ands; exact ⟨Kep.all g (by assumption), Kep.all g (by assumption), Kep.all g (by assumption), Kep.all g (by assumption), Kep.all g (by assumption), Kep.all g (by assumption), Kep.all g (by assumption), Kep.all g (by assumption), Kep.all g (by assumption), Kep.all g (by assumption), kep_next (by assumption) g⟩)) (fun hH2 => ?_)
      clear hK K hH; have hH := hH2; clear hH2
      refine rtk 12 (oi := ⟨some 86, .pick (.tmp 78) (.tmp 85) (.const (Value.bool false)), _, _, _, none⟩) (v := ?_) rfl ?_ hH ?_
      rotate_left
      · (intro w hSw; (try dsimp only at hSw); go_simp; (try with_reducible rfl))
      refine rtk 13 (oi := ⟨some 87, .move (.tmp 86), _, _, _, none⟩) (v := ?_) rfl ?_ hH ?_
      rotate_left
      · (intro w hSw; (try dsimp only at hSw); go_simp; (try with_reducible rfl))
      try simp only [Act.put, List.setIfInBounds_toArray, List.set_cons_zero, List.set_cons_succ]
      refine rtk 14 (oi := ⟨some 88, .move (.tmp 12), _, _, _, some (13, true)⟩) (v := ?_) rfl ?_ hH ?_
      rotate_left
      · (intro w hSw; (try dsimp only at hSw); go_simp; (try with_reducible rfl))
      try simp only [Act.put, List.setIfInBounds_toArray, List.set_cons_zero, List.set_cons_succ]
      refine rtk 15 (oi := ⟨some 89, .unOp .not 4 (.tmp 88), _, _, _, some (13, true)⟩) (v := ?_) rfl ?_ hH ?_
      rotate_left
      · (intro w hSw; (try dsimp only at hSw); go_simp; (try with_reducible rfl))
      try simp only [Act.put, List.setIfInBounds_toArray, List.set_cons_zero, List.set_cons_succ]
      refine rtk 16 (oi := ⟨some 90, .move (.tmp 89), _, _, _, some (13, true)⟩) (v := ?_) rfl ?_ hH ?_
      rotate_left
      · (intro w hSw; (try dsimp only at hSw); go_simp; (try with_reducible rfl))
      try simp only [Act.put, List.setIfInBounds_toArray, List.set_cons_zero, List.set_cons_succ]
      refine rtk 17 (oi := ⟨some 91, .load 35 (.tmp 11), _, _, _, some (16, false)⟩) (v := ?_) rfl ?_ hH ?_
      rotate_left
      · (intro w hSw; (try dsimp only at hSw); go_simp; (try with_reducible rfl))
      try simp only [Act.put, List.setIfInBounds_toArray, List.set_cons_zero, List.set_cons_succ]
      refine rtk 18 (oi := ⟨some 92, .move (.tmp 1), _, _, _, some (16, false)⟩) (v := ?_) rfl ?_ hH ?_
      rotate_left
      · (intro w hSw; (try dsimp only at hSw); go_simp; (try with_reducible rfl))
      try simp only [Act.put, List.setIfInBounds_toArray, List.set_cons_zero, List.set_cons_succ]
      refine rtk 19 (oi := ⟨some 93, .move (.tmp 13), _, _, _, some (16, false)⟩) (v := ?_) rfl ?_ hH ?_
      rotate_left
      · (intro w hSw; (try dsimp only at hSw); go_simp; (try with_reducible rfl))
      try simp only [Act.put, List.setIfInBounds_toArray, List.set_cons_zero, List.set_cons_succ]
      refine rtk 20 (oi := ⟨some 94, .indexAddr 23 (.tmp 92) (.tmp 93), _, _, _, some (16, false)⟩) (v := ?_) rfl ?_ hH ?_
      rotate_left
      · (intro w hSw; (try dsimp only at hSw); go_simp; (try with_reducible rfl))
      try simp only [Act.put, List.setIfInBounds_toArray, List.set_cons_zero, List.set_cons_succ]
      refine rtk 21 (oi := ⟨some 95, .load 35 (.tmp 94), _, _, _, some (16, false)⟩) (v := ?_) rfl ?_ hH ?_
      rotate_left
      · (intro w hSw; (try dsimp only at hSw); go_simp; (try with_reducible rfl))
      try simp only [Act.put, List.setIfInBounds_toArray, List.set_cons_zero, List.set_cons_succ]
      refine rtk 22 (oi := ⟨some 96, .binOp .eql 35 (.tmp 91) (.tmp 95) 35, _, _, _, some (16, false)⟩) (v := ?_) rfl ?_ hH ?_
      rotate_left
      · (intro w hSw; (try dsimp only at hSw); go_simp; (try with_reducible rfl))
      try simp only [Act.put, List.setIfInBounds_toArray, List.set_cons_zero, List.set_cons_succ]
      refine rtk 23 (oi := ⟨some 97, .pick (.tmp 90) (.const (Value.bool true)) (.tmp 96), _, _, _, some (13, true)⟩) (v := ?_) rfl ?_ hH ?_
      rotate_left
      · (intro w hSw; (try dsimp only at hSw); go_simp; (try with_reducible rfl))
      refine rtk 24 (oi := ⟨some 98, .pick (.tmp 87) (.tmp 97) (.const (Value.bool false)), _, _, _, none⟩) (v := ?_) rfl ?_ hH ?_
      rotate_left
      · (intro w hSw; (try dsimp only at hSw); go_simp; (try with_reducible rfl))
      refine rtk 25 (oi := ⟨some 6, .assign (.tmp 98), _, _, _, none⟩) (v := ?_) rfl ?_ hH ?_
      rotate_left
      · (intro w hSw; (try dsimp only at hSw); go_simp; (try with_reducible rfl))
      try simp only [Act.put, List.setIfInBounds_toArray, List.set_cons_zero, List.set_cons_succ]
      refine wpAnyH_done (by kernel_rfl) ?_ _
      refine NoPanic.normal ?_
      clear d0 d1 d2 d3 d4 m0 m1 m2 m3 m4 gg
      obtain ⟨d0, d1, d2, d3, d4, m0, m1, m2, m3, m4, gg⟩ := hH
      go_wp2_with fail
      go_ret
      exact ⟨rfl, gg⟩
/-- The law ContactsMatchesReference. -/
theorem cml_law (O : COps) (AW : CAwake) (key : Int) (L : List Bd) (v : Value) (w : World) (F0 : Fac w) (hq : Lst w v L) (M : List Ct) (vm : Value) (hqm : Sq ctv 5 w vm M) (hrm : Rmy vm) (HF : ∀ x ∈ L, Fits x) : Calls Tryz.prog 3 #[v, vm, .int .u32 key] w fun e w' => e = .returned (.bool true) ∧ Kep w.heap.size w w' := by
  cases hvw : viwB L
  · exact cml_bad (Lib.hid AW) key L v w F0 hq vm hvw
  · by_cases hm : 200 < M.length
    · exact cml_many (Lib.hid AW) key L v w F0 hq M vm hqm (Lib.hid HF) hvw hm
    · cases hM : M[0]? with
      | none =>
        have := List.getElem?_eq_none_iff.1 hM
        exact cml_none O (Lib.hid AW) key L v w F0 hq M vm hqm hrm (Lib.hid HF) hvw (by omega) (decide_eq_false (by omega))
      | some c =>
        have := (List.getElem?_eq_some_iff.1 hM).1
        exact cml_some O (Lib.hid AW) key L v w F0 hq M vm hqm hrm (Lib.hid HF) hvw (by omega) c hM (decide_eq_true (by omega))
end Go.Proofs.YtangalkbjochjaaGreatDoor
