/-
  Package contacts: the law ContactsDeepest.
-/
import Derived.Test.YtangalkbjochjaaGreatDoorCtsCon
import Derived.Deep.DeepCutAuto
import Derived.Deep.QuietTactic
import Derived.BigQuiet
namespace Go.Proofs.YtangalkbjochjaaGreatDoor
open Go.RowKit Go.Lib

theorem ct_eqb (x y : Ct) (z : Bool) (h : decide (x.lo = y.lo ∧ x.hi = y.hi ∧ x.nx = y.nx ∧ x.ny = y.ny ∧ x.dp = y.dp) = z) (w : World) : (binOp .eql 35 (.agg #[.int .u32 x.lo, .int .u32 x.hi, .int .i32 x.nx, .int .i32 x.ny, .int .i32 x.dp]) (.agg #[.int .u32 y.lo, .int .u32 y.hi, .int .i32 y.nx, .int .i32 y.ny, .int .i32 y.dp])).run Tryz.prog w = .ok (.bool z) w := by
  rw [← h]
  by_cases e0 : x.lo = y.lo
  · by_cases e1 : x.hi = y.hi
    · by_cases e2 : x.nx = y.nx
      · by_cases e3 : x.ny = y.ny
        · by_cases e4 : x.dp = y.dp
          · simp [go_sem, e0, e1, e2, e3, e4]
          · simp [go_sem, e0, e1, e2, e3, e4]
        · simp [go_sem, e0, e1, e2, e3]
      · simp [go_sem, e0, e1, e2]
    · simp [go_sem, e0, e1]
  · simp [go_sem, e0]
theorem ct_ext {x y : Ct} : (x.lo = y.lo ∧ x.hi = y.hi ∧ x.nx = y.nx ∧ x.ny = y.ny ∧ x.dp = y.dp) ↔ x = y := by
  constructor
  · rintro ⟨h0, h1, h2, h3, h4⟩
    obtain ⟨a, b, c, d, e⟩ := x
    obtain ⟨a', b', c', d', e'⟩ := y
    simp only at h0 h1 h2 h3 h4
    rw [h0, h1, h2, h3, h4]
  · rintro rfl
    exact ⟨rfl, rfl, rfl, rfl, rfl⟩
theorem take_mem {C : List Ct} {k : Nat} {x d : Ct} (h : C[k]? = some x) : d ∈ C.take (k + 1) ↔ d ∈ C.take k ∨ d = x := by
  rw [List.take_add_one, h]
  simp
set_option maxRecDepth 100000 in
set_option maxHeartbeats 2000000 in
theorem cdl_bad (AW : Hid CAwake)  (L : List Bd) (v : Value) (w : World) (F0 : Fac w) (hq : Lst w v L) (hvw : viwB L = false) : Calls Tryz.prog 7 #[v] w fun e w' => e = .returned (.bool true) ∧ Kep w.heap.size w w' := by
  obtain ⟨base, cap, rfl⟩ := hq.shape
  have HQ := Lib.hid hq
  clear hq
  have VW : Hid (∀ v w, Lst w v L → Calls Tryz.prog 8 #[v] w fun e w' => ∃ v', e = .returned (.tuple #[v', .bool false]) ∧ Lst w' v' (if L.length ≤ 40 then sortL L else []) ∧ Kep w.heap.size w w') := Lib.hid (fun v w h => (rvw L v w h).mono fun e w' ⟨v', h1, h2, h3⟩ => ⟨v', by rw [h1]; rw [hvw], h2.1, h3⟩)
  go_enter Tryz.func7, Tryz.ntmps7
  go_wp2_with (first
    | ((with_reducible refine (VW.out _ _ (HQ.out.kep (Kep.refl _ _))).mono ?_); rintro e w1 ⟨v1, rfl, l1, g1⟩
       have gg := kep_next (Kep.refl _ _) g1)
    | ((with_reducible refine (AW.out _ (F0.kep (by (repeat (first | with_reducible assumption | refine kep_more ?_ _ | refine kep_drew ?_ | exact Kep.refl _ _))))).mono ?_); rintro e w2 ⟨rfl, g2⟩
       replace gg := kep_next gg g2
       replace l1 := l1.kep g2))
  go_ret
  exact ⟨rfl, gg⟩
set_option maxRecDepth 100000 in
set_option maxHeartbeats 8000000 in
theorem cdl_ok (O : COps) (AW : Hid CAwake) (L : List Bd) (v : Value) (w : World) (F0 : Fac w) (hq : Lst w v L) (HF : Hid (∀ x ∈ L, Fits x)) (hvw : viwB L = true) : Calls Tryz.prog 7 #[v] w fun e w' => e = .returned (.bool true) ∧ Kep w.heap.size w w' := by
  obtain ⟨base, cap, rfl⟩ := hq.shape
  have HQ := Lib.hid hq
  clear hq
  have VW : Hid (∀ v w, Lst w v L → Calls Tryz.prog 8 #[v] w fun e w' => ∃ v', e = .returned (.tuple #[v', .bool true]) ∧ Lst w' v' (sortL L) ∧ Kep w.heap.size w w') := Lib.hid (fun v w h => (rvw L v w h).mono fun e w' ⟨v', h1, h2, h3⟩ => ⟨v', by rw [h1]; rw [hvw], by have := h2.1; rw [if_pos (vw_of hvw HF.out).1] at this; exact this, h3⟩)
  have HVW := Lib.hid (vw_of hvw HF.out).2.2
  obtain ⟨A, hA⟩ : ∃ A, A = sortL L := ⟨_, rfl⟩
  rw [← hA] at VW HVW
  clear hA
  obtain ⟨C, hC⟩ : ∃ C, C = consL A := ⟨_, rfl⟩
  obtain ⟨d, hd⟩ : ∃ d, d = deepC C := ⟨_, rfl⟩
  obtain ⟨nc, hnc⟩ : ∃ nc, nc = C.length := ⟨_, rfl⟩
  obtain ⟨z0, hz0⟩ : ∃ z0, z0 = decide (0 < nc) := ⟨_, rfl⟩
  have hpm : nc ≤ 780 := by rw [hnc, hC]; exact cons_max HVW.out.len
  have CA := Lib.hid (fun v w F h => (show Calls Tryz.prog 10 #[v] w fun e w' => ∃ b c n, e = .returned (.tuple #[.slice b nc c, .int .i64 n]) ∧ Sq ctv 5 w' (.slice b nc c) C ∧ Hid (Rmy (.slice b nc c)) ∧ Kep w.heap.size w w' by
    refine (O.all v A w F h HVW.out).mono ?_
    rintro e w' ⟨v', n, rfl, ⟨q, _, _, hr⟩, g⟩
    rw [← hC] at q
    obtain ⟨b, c, rfl⟩ := q.shape
    rw [← hnc] at q ⊢
    exact ⟨b, c, n, rfl, q, Lib.hid (by rw [← hnc] at hr; exact hr), g⟩))
  have CD := Lib.hid (fun v w h (hr : Hid (Rmy v)) => (show Calls Tryz.prog 11 #[v] w fun e w' => e = .returned (.tuple #[.agg #[.int .u32 d.lo, .int .u32 d.hi, .int .i32 d.nx, .int .i32 d.ny, .int .i32 d.dp], .bool z0]) ∧ Kep w.heap.size w w' by rw [hz0, hnc, hd]; exact O.deep v C w h hr.out (by omega)))
  have HNC : Hid (C.length = nc) := Lib.hid hnc.symm
  have HMX : Hid (∀ x ∈ C, x.dp ≤ d.dp) := Lib.hid (fun x hx => by rw [hd]; exact deep_max hx)
  have HFI : Hid (∀ (k : Nat) (x : Ct), C[k]? = some x → x.dp = d.dp → d ∉ C.take k → x = d) := Lib.hid (fun k x hx he hn => by rw [hd] at he hn ⊢; exact deep_first hx he hn)
  have HME : Hid (d ∈ C ↔ 0 < nc) := Lib.hid (by
    constructor
    · intro h
      have := List.length_pos_of_mem h
      omega
    · intro h
      rw [hd]
      exact deep_mem (fun e => by rw [e] at hnc; simp at hnc; omega))
  have hz1 : decide ((0 : Int) < (nc : Int)) = z0 := by
    rw [hz0, Bool.eq_iff_iff, decide_eq_true_iff, decide_eq_true_iff]
    omega
  have HZ0 : Hid (decide (0 < nc) = z0) := Lib.hid hz0.symm
  clear hC hd hnc hz0
  go_enter Tryz.func7, Tryz.ntmps7
  go_wp2_with (first
    | ((with_reducible refine (VW.out _ _ (HQ.out.kep (Kep.refl _ _))).mono ?_); rintro e w1 ⟨v1, rfl, l1, g1⟩
       have gg := kep_next (Kep.refl _ _) g1)
    | ((with_reducible refine (AW.out _ (F0.kep (by (repeat (first | with_reducible assumption | refine kep_more ?_ _ | refine kep_drew ?_ | exact Kep.refl _ _))))).mono ?_); rintro e w2 ⟨rfl, g2⟩
       replace gg := kep_next gg g2
       replace l1 := l1.kep g2)
    | ((with_reducible refine (CA.out _ _ (F0.kep gg) l1).mono ?_); rintro e w3 ⟨b3, c3, n3, rfl, q3, r3, g3⟩
       replace gg := kep_next gg g3)
    | ((with_reducible refine (CD.out _ _ q3 r3).mono ?_); rintro e w4 ⟨rfl, g4⟩
       replace gg := kep_next gg g4
       replace q3 := q3.kep g4))
  obtain ⟨base3, cap3, e3, hc⟩ := q3
  injection e3 with e3 e4 e5
  subst e3
  clear e4 e5
  obtain ⟨W5, hW5⟩ : ∃ x, x = w4.alloc (.cells #[.int .u32 d.lo, .int .u32 d.hi, .int .i32 d.nx, .int .i32 d.ny, .int .i32 d.dp] 35) := ⟨_, rfl⟩
  rw [← hW5]
  have kW5 : Kep w4.heap.size w4 W5 := by rw [hW5]; exact kep_more (Kep.refl _ _) _
  have d0 : W5.cell? ⟨w4.heap.size, 0, none⟩ = some (.int .u32 d.lo) := by rw [hW5, World.cell?_alloc_at _ _ _ _ (by simp)]; rfl
  have d1 : W5.cell? ⟨w4.heap.size, 1, none⟩ = some (.int .u32 d.hi) := by rw [hW5, World.cell?_alloc_at _ _ _ _ (by simp)]; rfl
  have d2 : W5.cell? ⟨w4.heap.size, 2, none⟩ = some (.int .i32 d.nx) := by rw [hW5, World.cell?_alloc_at _ _ _ _ (by simp)]; rfl
  have d3 : W5.cell? ⟨w4.heap.size, 3, none⟩ = some (.int .i32 d.ny) := by rw [hW5, World.cell?_alloc_at _ _ _ _ (by simp)]; rfl
  have d4 : W5.cell? ⟨w4.heap.size, 4, none⟩ = some (.int .i32 d.dp) := by rw [hW5, World.cell?_alloc_at _ _ _ _ (by simp)]; rfl
  replace gg := kep_next gg kW5
  have HC : Hid (∀ (k : Nat) (x : Ct), C[k]? = some x → ∃ g' off', b3 = some ⟨g', off', none⟩ ∧ ∀ (i : Nat) (u : Value), (ctv x)[i]? = some u → W5.cell? ⟨g', off' + k * 5 + i, none⟩ = some u) := Lib.hid fun k x hx => by
    obtain ⟨g', off', e, q⟩ := hc k x hx
    exact ⟨g', off', e, fun i u hu => kW5.all (q i u hu)⟩
  clear hc hW5 kW5
  have G5 := Lib.hid gg
  clear gg
  generalize w4.heap.size = db at *
  have hz2 := HZ0.out
  go_wp2_with fail
  go_loopw [9, 10] (fun f i wr => ∃ k : Nat, k ≤ nc ∧ i = .int .i64 k ∧ (∃ z : Bool, f = .bool z ∧ Hid (z = true ↔ d ∈ C.take k)) ∧ ∃ q, wr = W5.drewN q) (fun _ i _ => nc - (RowKit.intOf i).toNat)
  case atStart => exact ⟨0, by omega, rfl, ⟨false, rfl, Lib.hid (by simp)⟩, 0, rfl⟩
  case round =>
    obtain ⟨k, hk, rfl, ⟨z, rfl, HZ⟩, q, rfl⟩ := hrel
    by_cases hlt : k < nc
    · have hb : C[k]? = some (C[k]'(by rw [HNC.out]; exact hlt)) := List.getElem?_eq_getElem _
      generalize C[k]'(by rw [HNC.out]; exact hlt) = x at hb
      obtain ⟨gc, oc, rfl, qx⟩ := HC.out k x hb
      have t1 : decide (d.dp < x.dp) = false := decide_eq_false (by have := HMX.out x (List.mem_of_getElem? hb); omega)
      have HT := Lib.hid (take_mem (d := d) hb)
      have HFK := Lib.hid (HFI.out k x hb)
      have s0 : W5.cell? ⟨gc, oc + k * 5, none⟩ = some (.int .u32 x.lo) := qx 0 _ rfl
      have s1 : W5.cell? ⟨gc, oc + k * 5 + 1, none⟩ = some (.int .u32 x.hi) := qx 1 _ rfl
      have s2 : W5.cell? ⟨gc, oc + k * 5 + 2, none⟩ = some (.int .i32 x.nx) := qx 2 _ rfl
      have s3 : W5.cell? ⟨gc, oc + k * 5 + 3, none⟩ = some (.int .i32 x.ny) := qx 3 _ rfl
      have s4 : W5.cell? ⟨gc, oc + k * 5 + 4, none⟩ = some (.int .i32 x.dp) := qx 4 _ rfl
      clear hb qx
      cases z with
      | true =>
        have HN : Hid (d ∈ C.take (k + 1)) := Lib.hid (HT.out.2 (.inl (HZ.out.1 rfl)))
        go_wp2_with fail
        go_quiet (fail)
        go_wp2_with fail
        go_quiet (fail)
        go_wp2_with fail
        go_roundw
        case rel => exact ⟨k + 1, by omega, by go_num, ⟨true, rfl, Lib.hid ⟨fun _ => HN.out, fun _ => rfl⟩⟩, _, rfl⟩
        case measure => simp [RowKit.intOf]; omega
      | false =>
        have hnm : d ∉ C.take k := fun h => by have := HZ.out.2 h; cases this
        by_cases c : x = d
        · subst c
          have t2 : (x.dp == x.dp) = true := by simp
          have v1 := fun w => ct_ncmp x.lo x.hi x.nx x.ny x.dp w
          have v2 := fun w => ct_eqs x.lo x.hi x.nx x.ny x.dp w
          have HN : Hid (x ∈ C.take (k + 1)) := Lib.hid (HT.out.2 (.inr rfl))
          clear hnm
          go_wp2_with fail
          go_quiet (fail)
          go_wp2_with fail
          go_quiet (fail)
          go_wp2_with fail
          go_roundw
          case rel => exact ⟨k + 1, by omega, by go_num, ⟨true, rfl, Lib.hid ⟨fun _ => HN.out, fun _ => rfl⟩⟩, _, rfl⟩
          case measure => simp [RowKit.intOf]; omega
        · have t2 : (x.dp == d.dp) = false := beq_eq_false_iff_ne.2 fun e => c (HFK.out e hnm)
          have v2 := fun w => ct_eqb x d false (decide_eq_false fun e => c (ct_ext.1 e)) w
          have HN : Hid (¬ d ∈ C.take (k + 1)) := Lib.hid (fun h => by
            rcases HT.out.1 h with h | h
            · exact absurd h hnm
            · exact absurd h.symm c)
          clear hnm c
          go_wp2_with fail
          go_quiet (fail)
          go_wp2_with fail
          go_quiet (fail)
          go_wp2_with fail
          go_roundw
          case rel => exact ⟨k + 1, by omega, by go_num, ⟨false, rfl, Lib.hid ⟨(fun h => by cases h), fun h => absurd h HN.out⟩⟩, _, rfl⟩
          case measure => simp [RowKit.intOf]; omega
    · obtain rfl : k = nc := by omega
      have hz : z = z0 := by
        have h := HZ.out
        rw [List.take_of_length_le (by rw [HNC.out]; omega), HME.out] at h
        rw [← HZ0.out, Bool.eq_iff_iff, decide_eq_true_iff]
        exact h
      subst hz
      have e1 : (z == z) = true := by simp
      go_wp2_with fail
      go_ret
      exact ⟨rfl, kep_next G5.out (kep_drewN (Kep.refl _ _) _)⟩
/-- The law ContactsDeepest. -/
theorem cdl_law (O : COps) (AW : CAwake) (L : List Bd) (v : Value) (w : World) (F0 : Fac w) (hq : Lst w v L) (HF : ∀ x ∈ L, Fits x) : Calls Tryz.prog 7 #[v] w fun e w' => e = .returned (.bool true) ∧ Kep w.heap.size w w' := by
  cases hvw : viwB L
  · exact cdl_bad (Lib.hid AW) L v w F0 hq hvw
  · exact cdl_ok O (Lib.hid AW) L v w F0 hq (Lib.hid HF) hvw
end Go.Proofs.YtangalkbjochjaaGreatDoor
