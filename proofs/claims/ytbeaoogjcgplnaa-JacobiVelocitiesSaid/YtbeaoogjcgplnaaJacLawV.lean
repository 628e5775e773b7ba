/-
  Package jacobi: the law JacobiVelocities.
-/
import Derived.Test.YtbeaoogjcgplnaaJacCon
import Derived.Test.YtbeaoogjcgplnaaJ03StorePut
import Derived.Deep.DeepCutAuto
import Derived.Deep.QuietTactic
import Derived.BigQuiet
namespace Go.Proofs.Ytbeaoogjcgplnaa
open Go.RowKit Go.Lib

theorem vec_nsame (a b : Int) (w : World) : (binOp .neq 39 (.agg #[.int .i32 a, .int .i32 b]) (.agg #[.int .i32 a, .int .i32 b])).run Try.prog w = .ok (.bool false) w := by simp [go_sem]
/-- Whether a key is among the first contacts. -/
def usedC (C : List Ct) (key : Int) : Bool := C.any fun c => decide (c.lo = key) || decide (c.hi = key)
theorem used_not {C : List Ct} {key : Int} (h : usedC C key = false) : ∀ c ∈ C, c.lo ≠ key ∧ c.hi ≠ key := fun c hc => by
  unfold usedC at h
  rw [List.any_eq_false] at h
  have := h c hc
  simp only [Bool.or_eq_true, decide_eq_true_eq] at this
  omega
theorem used_take {C : List Ct} {key : Int} {k : Nat} {c : Ct} (h : C[k]? = some c) : usedC (C.take (k + 1)) key = (usedC (C.take k) key || (decide (c.lo = key) || decide (c.hi = key))) := any_take h
set_option maxRecDepth 100000 in
set_option maxHeartbeats 2000000 in
theorem jvl_bad (AW : Hid JAwake)  (L : List Bd) (v : Value) (w : World) (hq : Lst w v L) (C : List Ct) (l : Value) (hc : Sq ctv 5 w l C) (hvw : viwB L = false) : Calls Try.prog 5 #[v, l] w fun e w' => e = .returned (.bool true) ∧ Kep w.heap.size w w' := by
  obtain ⟨base, cap, rfl⟩ := hq.shape
  have HQ := Lib.hid hq
  have HC := Lib.hid hc
  clear hq hc
  have VW : Hid (∀ v w, Lst w v L → Calls Try.prog 8 #[v] w fun e w' => ∃ v', e = .returned (.tuple #[v', .bool false]) ∧ Lst w' v' (if L.length ≤ 40 then sortL L else []) ∧ Kep w.heap.size w w') := Lib.hid (fun v w h => (rvw L v w h).mono fun e w' ⟨v', h1, h2, h3⟩ => ⟨v', by rw [h1]; rw [hvw], h2.1, h3⟩)
  clear HC
  go_enter Try.func5, Try.ntmps5
  go_wp2_with (first
    | ((with_reducible refine (VW.out _ _ (HQ.out.kep (Kep.refl _ _))).mono ?_); rintro e w1 ⟨v1, rfl, l1, g1⟩
       have gg := kep_next (Kep.refl _ _) g1)
    | ((with_reducible refine (AW.out _).mono ?_); rintro e w2 ⟨rfl, g2⟩
       replace gg := kep_next gg g2
       replace l1 := l1.kep g2))
  go_ret
  exact ⟨rfl, gg⟩
set_option maxRecDepth 100000 in
set_option maxHeartbeats 2000000 in
theorem jvl_not (AW : Hid JAwake)  (L : List Bd) (v : Value) (w : World) (hq : Lst w v L) (C : List Ct) (l : Value) (hc : Sq ctv 5 w l C) (HF : Hid (∀ x ∈ L, Fits x)) (hvw : viwB L = true) (hr : rgtJ (sortL L) C = false) : Calls Try.prog 5 #[v, l] w fun e w' => e = .returned (.bool true) ∧ Kep w.heap.size w w' := by
  obtain ⟨base, cap, rfl⟩ := hq.shape
  have HQ := Lib.hid hq
  have HC := Lib.hid hc
  clear hq hc
  have VW : Hid (∀ v w, Lst w v L → Calls Try.prog 8 #[v] w fun e w' => ∃ v', e = .returned (.tuple #[v', .bool true]) ∧ Lst w' v' (sortL L) ∧ Kep w.heap.size w w') := Lib.hid (fun v w h => (rvw L v w h).mono fun e w' ⟨v', h1, h2, h3⟩ => ⟨v', by rw [h1]; rw [hvw], by have := h2.1; rw [if_pos (vw_of hvw HF.out).1] at this; exact this, h3⟩)
  have HVW := Lib.hid (vw_of hvw HF.out).2.2
  obtain ⟨A, hA⟩ : ∃ A, A = sortL L := ⟨_, rfl⟩
  rw [← hA] at VW HVW hr
  clear hA
  have RR := Lib.hid (show RRj A C false by rw [← hr]; exact rrj A (by have := HVW.out.len; omega) C)
  go_enter Try.func5, Try.ntmps5
  go_wp2_with (first
    | ((with_reducible refine (VW.out _ _ (HQ.out.kep (Kep.refl _ _))).mono ?_); rintro e w1 ⟨v1, rfl, l1, g1⟩
       have gg := kep_next (Kep.refl _ _) g1)
    | ((with_reducible refine (AW.out _).mono ?_); rintro e w2 ⟨rfl, g2⟩
       replace gg := kep_next gg g2
       replace l1 := l1.kep g2)
    | ((with_reducible refine (RR.out _ _ _ l1 (HC.out.kep gg)).mono ?_); rintro e w3 ⟨rfl, g3⟩
       replace gg := kep_next gg g3
       replace l1 := l1.kep g3))
  go_ret
  exact ⟨rfl, gg⟩
set_option maxRecDepth 100000 in
set_option maxHeartbeats 8000000 in
theorem jvl_ok (O : JOps) (AW : Hid JAwake)  (L : List Bd) (v : Value) (w : World) (hq : Lst w v L) (C : List Ct) (l : Value) (hc : Sq ctv 5 w l C) (HF : Hid (∀ x ∈ L, Fits x)) (hvw : viwB L = true) (hr : rgtJ (sortL L) C = true) : Calls Try.prog 5 #[v, l] w fun e w' => e = .returned (.bool true) ∧ Kep w.heap.size w w' := by
  obtain ⟨base, cap, rfl⟩ := hq.shape
  have HQ := Lib.hid hq
  have HC := Lib.hid hc
  clear hq hc
  have VW : Hid (∀ v w, Lst w v L → Calls Try.prog 8 #[v] w fun e w' => ∃ v', e = .returned (.tuple #[v', .bool true]) ∧ Lst w' v' (sortL L) ∧ Kep w.heap.size w w') := Lib.hid (fun v w h => (rvw L v w h).mono fun e w' ⟨v', h1, h2, h3⟩ => ⟨v', by rw [h1]; rw [hvw], by have := h2.1; rw [if_pos (vw_of hvw HF.out).1] at this; exact this, h3⟩)
  have HVW := Lib.hid (vw_of hvw HF.out).2.2
  obtain ⟨A, hA⟩ : ∃ A, A = sortL L := ⟨_, rfl⟩
  rw [← hA] at VW HVW hr
  clear hA
  have RR := Lib.hid (show RRj A C true by rw [← hr]; exact rrj A (by have := HVW.out.len; omega) C)
  have HJ := Lib.hid (jarg HVW.out hr)
  clear hr
  obtain ⟨N, hN⟩ : ∃ N, N = (slvN C A 4).1 := ⟨_, rfl⟩
  obtain ⟨zz, hzz⟩ : ∃ z, z = (slvN C A 4).2 := ⟨_, rfl⟩
  have PV := Lib.hid (fun v w h k => (show Calls Try.prog 14 #[v, l] w fun e w' => ∃ v', e = .returned (.tuple #[v', .bool zz]) ∧ (Lst w' v' N ∧ NewZ w v' w') ∧ Kep w.heap.size w w' by rw [hN, hzz]; exact O.solve v A l C w h k HJ.out))
  have HNA := Lib.hid (fun (i : Nat) (x : Bd) (hx : A[i]? = some x) => (show ∃ y, N[i]? = some y ∧ SmJ x y ∧ Vb y ∧ (x.m = 0 ∨ (∀ c ∈ C, c.lo ≠ x.k ∧ c.hi ≠ x.k) → y.vx = x.vx ∧ y.vy = x.vy) by rw [hN]; exact slv_at (HJ.out.vb x (List.mem_of_getElem? hx)) hx 4))
  have hnl : N.length = A.length := by rw [hN, slv_len]
  have hal := HVW.out.len
  have hfew := HJ.out.few
  clear hN hzz
  generalize hna : A.length = na at *
  have HN := Lib.hid hna
  have HNN := Lib.hid hnl
  clear hna hnl
  go_enter Try.func5, Try.ntmps5
  go_wp2_with (first
    | ((with_reducible refine (VW.out _ _ (HQ.out.kep (Kep.refl _ _))).mono ?_); rintro e w1 ⟨v1, rfl, l1, g1⟩
       have gg := kep_next (Kep.refl _ _) g1
       obtain ⟨ba, ca, hv1⟩ := l1.shape
       rw [HN.out] at hv1
       subst hv1)
    | ((with_reducible refine (AW.out _).mono ?_); rintro e w2 ⟨rfl, g2⟩
       replace gg := kep_next gg g2
       replace l1 := l1.kep g2)
    | ((with_reducible refine (RR.out _ _ _ l1 (HC.out.kep gg)).mono ?_); rintro e w3 ⟨rfl, g3⟩
       replace gg := kep_next gg g3
       replace l1 := l1.kep g3)
    | ((with_reducible refine (PV.out _ _ l1 (HC.out.kep gg)).mono ?_); rintro e w4 ⟨v4, rfl, ⟨s4, _⟩, g4⟩
       replace gg := kep_next gg g4
       replace l1 := l1.kep g4
       obtain ⟨bs, cs, hv4⟩ := s4.shape
       rw [HNN.out] at hv4
       subst hv4))
  have HLA := Lib.hid (fun (k : Nat) (x : Bd) (hx : A[k]? = some x) => l1.at_ hx)
  have HLS := Lib.hid (fun (k : Nat) (x : Bd) (hx : N[k]? = some x) => s4.at_ hx)
  obtain ⟨bc, cc, rfl, hcc⟩ := HC.out.kep gg
  have HC0 := Lib.hid hcc
  have G0 := Lib.hid gg
  clear gg l1 s4 hcc
  generalize hnc : C.length = nc at *
  have HCN := Lib.hid hnc
  clear hnc
  go_loopw [9] (fun i wr => ∃ k : Nat, k ≤ na ∧ i = .int .i64 k ∧ Hid (Kep w4.heap.size w4 wr)) (fun i _ => na - (RowKit.intOf i).toNat)
  case atStart => exact ⟨0, by omega, rfl, Lib.hid (Kep.refl _ _)⟩
  case round =>
    obtain ⟨k, hk, rfl, HP⟩ := hrel
    have gi := HP.out
    by_cases hlt : k < na
    · have hb : A[k]? = some (A[k]'(by rw [HN.out]; exact hlt)) := List.getElem?_eq_getElem _
      generalize A[k]'(by rw [HN.out]; exact hlt) = x at hb
      obtain ⟨y, hy, sm, vb, hs⟩ := HNA.out k x hb
      obtain ⟨gl, off, rfl, qx⟩ := HLA.out k x hb
      obtain ⟨gs, os, rfl, qy⟩ := HLS.out k y hy
      have HVB := Lib.hid vb
      have HSM := Lib.hid hs
      obtain ⟨sk, sr, sax, say, sm2, so, spx, spy⟩ := sm
      have x0 : wr.cell? ⟨gl, off + k * 10, none⟩ = some (.int .u32 x.k) := gi.all (qx 0 (by decide))
      have x1 : wr.cell? ⟨gl, off + k * 10 + 1, none⟩ = some (.int .i32 x.r) := gi.all (qx 1 (by decide))
      have x2 : wr.cell? ⟨gl, off + k * 10 + 2, none⟩ = some (.int .i32 x.ax) := gi.all (qx 2 (by decide))
      have x3 : wr.cell? ⟨gl, off + k * 10 + 3, none⟩ = some (.int .i32 x.ay) := gi.all (qx 3 (by decide))
      have x4 : wr.cell? ⟨gl, off + k * 10 + 4, none⟩ = some (.int .i32 x.m) := gi.all (qx 4 (by decide))
      have x5 : wr.cell? ⟨gl, off + k * 10 + 5, none⟩ = some (.int .i32 x.o) := gi.all (qx 5 (by decide))
      have x6 : wr.cell? ⟨gl, off + k * 10 + 6, none⟩ = some (.int .i32 x.px) := gi.all (qx 6 (by decide))
      have x7 : wr.cell? ⟨gl, off + k * 10 + 7, none⟩ = some (.int .i32 x.py) := gi.all (qx 7 (by decide))
      have x8 : wr.cell? ⟨gl, off + k * 10 + 8, none⟩ = some (.int .i32 x.vx) := gi.all (qx 8 (by decide))
      have x9 : wr.cell? ⟨gl, off + k * 10 + 9, none⟩ = some (.int .i32 x.vy) := gi.all (qx 9 (by decide))
      have y0 : wr.cell? ⟨gs, os + k * 10, none⟩ = some (.int .u32 x.k) := by rw [← sk]; exact gi.all (qy 0 (by decide))
      have y1 : wr.cell? ⟨gs, os + k * 10 + 1, none⟩ = some (.int .i32 x.r) := by rw [← sr]; exact gi.all (qy 1 (by decide))
      have y2 : wr.cell? ⟨gs, os + k * 10 + 2, none⟩ = some (.int .i32 x.ax) := by rw [← sax]; exact gi.all (qy 2 (by decide))
      have y3 : wr.cell? ⟨gs, os + k * 10 + 3, none⟩ = some (.int .i32 x.ay) := by rw [← say]; exact gi.all (qy 3 (by decide))
      have y4 : wr.cell? ⟨gs, os + k * 10 + 4, none⟩ = some (.int .i32 x.m) := by rw [← sm2]; exact gi.all (qy 4 (by decide))
      have y5 : wr.cell? ⟨gs, os + k * 10 + 5, none⟩ = some (.int .i32 x.o) := by rw [← so]; exact gi.all (qy 5 (by decide))
      have y6 : wr.cell? ⟨gs, os + k * 10 + 6, none⟩ = some (.int .i32 x.px) := by rw [← spx]; exact gi.all (qy 6 (by decide))
      have y7 : wr.cell? ⟨gs, os + k * 10 + 7, none⟩ = some (.int .i32 x.py) := by rw [← spy]; exact gi.all (qy 7 (by decide))
      have y8 : wr.cell? ⟨gs, os + k * 10 + 8, none⟩ = some (.int .i32 y.vx) := gi.all (qy 8 (by decide))
      have y9 : wr.cell? ⟨gs, os + k * 10 + 9, none⟩ = some (.int .i32 y.vy) := gi.all (qy 9 (by decide))
      have zl := World.block_lt_of_cell? _ _ x0
      have zs := World.block_lt_of_cell? _ _ y0
      dsimp only at zl zs
      have bq := fun w => body_neq x w
      clear hb hy qx qy vb hs sk sr sax say sm2 so spx spy HP
      go_wp2_with fail
      generalize hW : World.alloc wr _ = W6
      have kW : Kep wr.heap.size wr W6 := by rw [← hW]; exact kep_more (Kep.refl _ _) _
      have p0 : W6.cell? ⟨wr.heap.size, 0, none⟩ = some (.int .u32 x.k) := by rw [← hW, World.cell?_alloc_at _ _ _ _ (by simp)]; rfl
      have p1 : W6.cell? ⟨wr.heap.size, 1, none⟩ = some (.int .i32 x.r) := by rw [← hW, World.cell?_alloc_at _ _ _ _ (by simp)]; rfl
      have p2 : W6.cell? ⟨wr.heap.size, 2, none⟩ = some (.int .i32 x.ax) := by rw [← hW, World.cell?_alloc_at _ _ _ _ (by simp)]; rfl
      have p3 : W6.cell? ⟨wr.heap.size, 3, none⟩ = some (.int .i32 x.ay) := by rw [← hW, World.cell?_alloc_at _ _ _ _ (by simp)]; rfl
      have p4 : W6.cell? ⟨wr.heap.size, 4, none⟩ = some (.int .i32 x.m) := by rw [← hW, World.cell?_alloc_at _ _ _ _ (by simp)]; rfl
      have p5 : W6.cell? ⟨wr.heap.size, 5, none⟩ = some (.int .i32 x.o) := by rw [← hW, World.cell?_alloc_at _ _ _ _ (by simp)]; rfl
      have p6 : W6.cell? ⟨wr.heap.size, 6, none⟩ = some (.int .i32 x.px) := by rw [← hW, World.cell?_alloc_at _ _ _ _ (by simp)]; rfl
      have p7 : W6.cell? ⟨wr.heap.size, 7, none⟩ = some (.int .i32 x.py) := by rw [← hW, World.cell?_alloc_at _ _ _ _ (by simp)]; rfl
      have p8 : W6.cell? ⟨wr.heap.size, 8, none⟩ = some (.int .i32 x.vx) := by rw [← hW, World.cell?_alloc_at _ _ _ _ (by simp)]; rfl
      have p9 : W6.cell? ⟨wr.heap.size, 9, none⟩ = some (.int .i32 x.vy) := by rw [← hW, World.cell?_alloc_at _ _ _ _ (by simp)]; rfl
      clear hW
      replace x0 := kW.all x0
      replace x1 := kW.all x1
      replace x2 := kW.all x2
      replace x3 := kW.all x3
      replace x4 := kW.all x4
      replace x5 := kW.all x5
      replace x6 := kW.all x6
      replace x7 := kW.all x7
      replace x8 := kW.all x8
      replace x9 := kW.all x9
      replace y0 := kW.all y0
      replace y1 := kW.all y1
      replace y2 := kW.all y2
      replace y3 := kW.all y3
      replace y4 := kW.all y4
      replace y5 := kW.all y5
      replace y6 := kW.all y6
      replace y7 := kW.all y7
      replace y8 := kW.all y8
      replace y9 := kW.all y9
      have g6 := gi.trans (kW.mono gi.size)
      have HCC : Hid (∀ (k : Nat) (x : Ct), C[k]? = some x → ∃ g off, bc = some ⟨g, off, none⟩ ∧ ∀ (i : Nat) (u : Value), (ctv x)[i]? = some u → W6.cell? ⟨g, off + k * 5 + i, none⟩ = some u) := Lib.hid fun i c hc => by
        obtain ⟨g, o, e, q⟩ := HC0.out i c hc
        exact ⟨g, o, e, fun i u hu => g6.all (q i u hu)⟩
      have HG := Lib.hid g6
      clear kW gi g6
      go_loopw [11, 12] (fun u j w9 => ∃ i : Nat, i ≤ nc ∧ j = .int .i64 i ∧ (∃ z : Bool, u = .bool z ∧ Hid (usedC (C.take i) x.k = z)) ∧ ∃ q, w9 = W6.drewN q) (fun _ j _ => nc - (RowKit.intOf j).toNat)
      case atStart => exact ⟨0, by omega, rfl, ⟨false, rfl, Lib.hid (by simp [usedC])⟩, 0, rfl⟩
      case round =>
        obtain ⟨i, hi, rfl, ⟨z, rfl, HZ⟩, q, rfl⟩ := hrel
        by_cases hlt2 : i < nc
        · have hb : C[i]? = some (C[i]'(by rw [HCN.out]; exact hlt2)) := List.getElem?_eq_getElem _
          generalize C[i]'(by rw [HCN.out]; exact hlt2) = c at hb
          obtain ⟨gc, oc, rfl, qc⟩ := HCC.out i c hb
          have HU := Lib.hid (used_take (key := x.k) hb)
          have t0 : W6.cell? ⟨gc, oc + i * 5, none⟩ = some (.int .u32 c.lo) := qc 0 _ rfl
          have t1 : W6.cell? ⟨gc, oc + i * 5 + 1, none⟩ = some (.int .u32 c.hi) := qc 1 _ rfl
          have t2 : W6.cell? ⟨gc, oc + i * 5 + 2, none⟩ = some (.int .i32 c.nx) := qc 2 _ rfl
          have t3 : W6.cell? ⟨gc, oc + i * 5 + 3, none⟩ = some (.int .i32 c.ny) := qc 3 _ rfl
          have t4 : W6.cell? ⟨gc, oc + i * 5 + 4, none⟩ = some (.int .i32 c.dp) := qc 4 _ rfl
          clear hb qc
          cases z with
          | true =>
            have HN2 : Hid (usedC (C.take (i + 1)) x.k = true) := Lib.hid (by rw [HU.out, HZ.out]; rfl)
            go_wp2_with fail
            go_quiet (fail)
            go_wp2_with fail
            go_roundw
            case rel => exact ⟨i + 1, by omega, by go_num, ⟨true, rfl, HN2⟩, _, rfl⟩
            case measure => simp [RowKit.intOf]; omega
          | false =>
            by_cases e0 : c.lo = x.k
            · have q0 : (c.lo == x.k) = true := beq_iff_eq.2 e0
              have HN2 : Hid (usedC (C.take (i + 1)) x.k = true) := Lib.hid (by rw [HU.out, HZ.out, decide_eq_true e0]; rfl)
              clear e0
              go_wp2_with fail
              go_quiet (fail)
              go_wp2_with fail
              go_roundw
              case rel => exact ⟨i + 1, by omega, by go_num, ⟨true, rfl, HN2⟩, _, rfl⟩
              case measure => simp [RowKit.intOf]; omega
            · have q0 : (c.lo == x.k) = false := beq_eq_false_iff_ne.2 e0
              obtain ⟨z1, hz1⟩ : ∃ z1, (c.hi == x.k) = z1 := ⟨_, rfl⟩
              have HN2 : Hid (usedC (C.take (i + 1)) x.k = z1) := Lib.hid (by
                rw [HU.out, HZ.out, decide_eq_false e0, ← hz1]
                simp only [Bool.false_or]
                rw [Bool.eq_iff_iff, decide_eq_true_iff, beq_iff_eq])
              clear e0
              go_wp2_with fail
              go_quiet (fail)
              go_wp2_with fail
              go_roundw
              case rel => exact ⟨i + 1, by omega, by go_num, ⟨z1, rfl, HN2⟩, _, rfl⟩
              case measure => simp [RowKit.intOf]; omega
        · obtain rfl : i = nc := by omega
          have hz := HZ.out
          rw [List.take_of_length_le (by rw [HCN.out]; omega)] at hz
          have HZ2 := Lib.hid hz
          have b0 : decide (y.vx < -16777216) = false := decide_eq_false (by have := HVB.out.vx0; omega)
          have b1 : decide (16777216 < y.vx) = false := decide_eq_false (by have := HVB.out.vx1; omega)
          have b2 : decide (y.vy < -16777216) = false := decide_eq_false (by have := HVB.out.vy0; omega)
          have b3 : decide (16777216 < y.vy) = false := decide_eq_false (by have := HVB.out.vy1; omega)
          clear hz HZ
          generalize hW9 : World.drewN W6 q = W9
          have k9 : Kep W6.heap.size W6 W9 := by rw [← hW9]; exact kep_drewN (Kep.refl _ _) _
          have gg := kep_next HG.out k9
          replace p0 := k9.all p0
          replace p1 := k9.all p1
          replace p2 := k9.all p2
          replace p3 := k9.all p3
          replace p4 := k9.all p4
          replace p5 := k9.all p5
          replace p6 := k9.all p6
          replace p7 := k9.all p7
          replace p8 := k9.all p8
          replace p9 := k9.all p9
          replace x0 := k9.all x0
          replace x1 := k9.all x1
          replace x2 := k9.all x2
          replace x3 := k9.all x3
          replace x4 := k9.all x4
          replace x5 := k9.all x5
          replace x6 := k9.all x6
          replace x7 := k9.all x7
          replace x8 := k9.all x8
          replace x9 := k9.all x9
          replace y0 := k9.all y0
          replace y1 := k9.all y1
          replace y2 := k9.all y2
          replace y3 := k9.all y3
          replace y4 := k9.all y4
          replace y5 := k9.all y5
          replace y6 := k9.all y6
          replace y7 := k9.all y7
          replace y8 := k9.all y8
          replace y9 := k9.all y9
          clear hW9 k9
          go_wp2_with fail
          by_cases hm : x.m = 0 ∨ z = false
          · have hvel := HSM.out (hm.elim .inl fun e => .inr (used_not (by rw [HZ2.out]; exact e)))
            rw [hvel.1] at y8 b0 b1
            rw [hvel.2] at y9 b2 b3
            have vq := fun w => vec_nsame x.vx x.vy w
            clear hvel
            by_cases hm0 : x.m = 0
            · have m0 : (x.m == 0) = true := beq_iff_eq.2 hm0
              clear hm hm0
              refine wp_region_noPanic ?_
              refine wp_region_held_drew (S := (fun w' => w'.cell? ⟨wr.heap.size, 0, none⟩ = some (.int .u32 x.k) ∧ w'.cell? ⟨wr.heap.size, 1, none⟩ = some (.int .i32 x.r) ∧ w'.cell? ⟨wr.heap.size, 2, none⟩ = some (.int .i32 x.ax) ∧ w'.cell? ⟨wr.heap.size, 3, none⟩ = some (.int .i32 x.ay) ∧ w'.cell? ⟨wr.heap.size, 4, none⟩ = some (.int .i32 x.m) ∧ w'.cell? ⟨wr.heap.size, 5, none⟩ = some (.int .i32 x.o) ∧ w'.cell? ⟨wr.heap.size, 6, none⟩ = some (.int .i32 x.px) ∧ w'.cell? ⟨wr.heap.size, 7, none⟩ = some (.int .i32 x.py) ∧ w'.cell? ⟨wr.heap.size, 8, none⟩ = some (.int .i32 x.vx) ∧ w'.cell? ⟨wr.heap.size, 9, none⟩ = some (.int .i32 x.vy) ∧ w'.cell? ⟨gl, off + k * 10, none⟩ = some (.int .u32 x.k) ∧ w'.cell? ⟨gl, off + k * 10 + 1, none⟩ = some (.int .i32 x.r) ∧ w'.cell? ⟨gl, off + k * 10 + 2, none⟩ = some (.int .i32 x.ax) ∧ w'.cell? ⟨gl, off + k * 10 + 3, none⟩ = some (.int .i32 x.ay) ∧ w'.cell? ⟨gl, off + k * 10 + 4, none⟩ = some (.int .i32 x.m) ∧ w'.cell? ⟨gl, off + k * 10 + 5, none⟩ = some (.int .i32 x.o) ∧ w'.cell? ⟨gl, off + k * 10 + 6, none⟩ = some (.int .i32 x.px) ∧ w'.cell? ⟨gl, off + k * 10 + 7, none⟩ = some (.int .i32 x.py) ∧ w'.cell? ⟨gl, off + k * 10 + 8, none⟩ = some (.int .i32 x.vx) ∧ w'.cell? ⟨gl, off + k * 10 + 9, none⟩ = some (.int .i32 x.vy) ∧ w'.cell? ⟨gs, os + k * 10, none⟩ = some (.int .u32 x.k) ∧ w'.cell? ⟨gs, os + k * 10 + 1, none⟩ = some (.int .i32 x.r) ∧ w'.cell? ⟨gs, os + k * 10 + 2, none⟩ = some (.int .i32 x.ax) ∧ w'.cell? ⟨gs, os + k * 10 + 3, none⟩ = some (.int .i32 x.ay) ∧ w'.cell? ⟨gs, os + k * 10 + 4, none⟩ = some (.int .i32 x.m) ∧ w'.cell? ⟨gs, os + k * 10 + 5, none⟩ = some (.int .i32 x.o) ∧ w'.cell? ⟨gs, os + k * 10 + 6, none⟩ = some (.int .i32 x.px) ∧ w'.cell? ⟨gs, os + k * 10 + 7, none⟩ = some (.int .i32 x.py) ∧ w'.cell? ⟨gs, os + k * 10 + 8, none⟩ = some (.int .i32 x.vx) ∧ w'.cell? ⟨gs, os + k * 10 + 9, none⟩ = some (.int .i32 x.vy) ∧ Kep w4.heap.size w4 w')) (by kernel_rfl) (⟨by rw [World.cell?_drew]; exact p0, by rw [World.cell?_drew]; exact p1, by rw [World.cell?_drew]; exact p2, by rw [World.cell?_drew]; exact p3, by rw [World.cell?_drew]; exact p4, by rw [World.cell?_drew]; exact p5, by rw [World.cell?_drew]; exact p6, by rw [World.cell?_drew]; exact p7, by rw [World.cell?_drew]; exact p8, by rw [World.cell?_drew]; exact p9, by rw [World.cell?_drew]; exact x0, by rw [World.cell?_drew]; exact x1, by rw [World.cell?_drew]; exact x2, by rw [World.cell?_drew]; exact x3, by rw [World.cell?_drew]; exact x4, by rw [World.cell?_drew]; exact x5, by rw [World.cell?_drew]; exact x6, by rw [World.cell?_drew]; exact x7, by rw [World.cell?_drew]; exact x8, by rw [World.cell?_drew]; exact x9, by rw [World.cell?_drew]; exact y0, by rw [World.cell?_drew]; exact y1, by rw [World.cell?_drew]; exact y2, by rw [World.cell?_drew]; exact y3, by rw [World.cell?_drew]; exact y4, by rw [World.cell?_drew]; exact y5, by rw [World.cell?_drew]; exact y6, by rw [World.cell?_drew]; exact y7, by rw [World.cell?_drew]; exact y8, by rw [World.cell?_drew]; exact y9, kep_drew gg⟩) (fun hH => ?_)
              refine rtk 0 (oi := ⟨some 93, .load 44 (.tmp 10), _, _, _, none⟩) (v := ?_) rfl ?_ hH ?_
              rotate_left
              · (intro w hSw; (try dsimp only at hSw); go_simp; (try with_reducible rfl))
              refine rtk 1 (oi := ⟨some 94, .move (.tmp 5), _, _, _, none⟩) (v := ?_) rfl ?_ hH ?_
              rotate_left
              · (intro w hSw; (try dsimp only at hSw); go_simp; (try with_reducible rfl))
              refine rtk 2 (oi := ⟨some 95, .move (.tmp 9), _, _, _, none⟩) (v := ?_) rfl ?_ hH ?_
              rotate_left
              · (intro w hSw; (try dsimp only at hSw); go_simp; (try with_reducible rfl))
              refine rtk 3 (oi := ⟨some 96, .indexAddr 22 (.tmp 94) (.tmp 95), _, _, _, none⟩) (v := ?_) rfl ?_ hH ?_
              rotate_left
              · (intro w hSw; (try dsimp only at hSw); go_simp; (try with_reducible rfl))
              try simp only [Act.put, List.setIfInBounds_toArray, List.set_cons_zero, List.set_cons_succ]
              refine rtk 4 (oi := ⟨some 97, .load 44 (.tmp 96), _, _, _, none⟩) (v := ?_) rfl ?_ hH ?_
              rotate_left
              · (intro w hSw; (try dsimp only at hSw); go_simp; (try with_reducible rfl))
              refine rtk 5 (oi := ⟨some 98, .binOp .neq 44 (.tmp 93) (.tmp 97) 44, _, _, _, none⟩) (v := ?_) rfl ?_ hH ?_
              rotate_left
              · (intro w hSw; (try dsimp only at hSw); go_simp; (try with_reducible rfl))
              refine rtk 6 (oi := ⟨some 99, .move (.tmp 98), _, _, _, none⟩) (v := ?_) rfl ?_ hH ?_
              rotate_left
              · (intro w hSw; (try dsimp only at hSw); go_simp; (try with_reducible rfl))
              try simp only [Act.put, List.setIfInBounds_toArray, List.set_cons_zero, List.set_cons_succ]
              refine rtk 7 (oi := ⟨some 100, .move (.tmp 5), _, _, _, some (6, false)⟩) (v := ?_) rfl ?_ hH ?_
              rotate_left
              · (intro w hSw; (try dsimp only at hSw); go_simp; (try with_reducible rfl))
              try simp only [Act.put, List.setIfInBounds_toArray, List.set_cons_zero, List.set_cons_succ]
              refine rtk 8 (oi := ⟨some 101, .move (.tmp 9), _, _, _, some (6, false)⟩) (v := ?_) rfl ?_ hH ?_
              rotate_left
              · (intro w hSw; (try dsimp only at hSw); go_simp; (try with_reducible rfl))
              try simp only [Act.put, List.setIfInBounds_toArray, List.set_cons_zero, List.set_cons_succ]
              refine rtk 9 (oi := ⟨some 102, .indexAddr 22 (.tmp 100) (.tmp 101), _, _, _, some (6, false)⟩) (v := ?_) rfl ?_ hH ?_
              rotate_left
              · (intro w hSw; (try dsimp only at hSw); go_simp; (try with_reducible rfl))
              try simp only [Act.put, List.setIfInBounds_toArray, List.set_cons_zero, List.set_cons_succ]
              refine rtk 10 (oi := ⟨some 103, .fieldAddr 44 (.tmp 102) 3, _, _, _, some (6, false)⟩) (v := ?_) rfl ?_ hH ?_
              rotate_left
              · (intro w hSw; (try dsimp only at hSw); go_simp; (try with_reducible rfl))
              try simp only [Act.put, List.setIfInBounds_toArray, List.set_cons_zero, List.set_cons_succ]
              refine rtk 11 (oi := ⟨some 104, .load 21 (.tmp 103), _, _, _, some (6, false)⟩) (v := ?_) rfl ?_ hH ?_
              rotate_left
              · (intro w hSw; (try dsimp only at hSw); go_simp; (try with_reducible rfl))
              try simp only [Act.put, List.setIfInBounds_toArray, List.set_cons_zero, List.set_cons_succ]
              refine rtk 12 (oi := ⟨some 105, .binOp .eql 21 (.tmp 104) (.const (Value.int IntKind.i32 0)) 21, _, _, _, some (6, false)⟩) (v := ?_) rfl ?_ hH ?_
              rotate_left
              · (intro w hSw; (try dsimp only at hSw); go_simp; (try with_reducible rfl))
              try simp only [Act.put, List.setIfInBounds_toArray, List.set_cons_zero, List.set_cons_succ]
              refine rtk 13 (oi := ⟨some 106, .move (.tmp 105), _, _, _, some (6, false)⟩) (v := ?_) rfl ?_ hH ?_
              rotate_left
              · (intro w hSw; (try dsimp only at hSw); go_simp; (try with_reducible rfl))
              try simp only [Act.put, List.setIfInBounds_toArray, List.set_cons_zero, List.set_cons_succ]
              refine rtu 14 (oi := ⟨some 107, .move (.tmp 11), _, _, _, some (13, false)⟩) rfl hH ?_
              try simp only [Act.put, List.setIfInBounds_toArray, List.set_cons_zero, List.set_cons_succ]
              refine rtu 15 (oi := ⟨some 108, .unOp .not 4 (.tmp 107), _, _, _, some (13, false)⟩) rfl hH ?_
              try simp only [Act.put, List.setIfInBounds_toArray, List.set_cons_zero, List.set_cons_succ]
              refine rtk 16 (oi := ⟨some 109, .pick (.tmp 106) (.const (Value.bool true)) (.tmp 108), _, _, _, some (6, false)⟩) (v := ?_) rfl ?_ hH ?_
              rotate_left
              · (intro w hSw; (try dsimp only at hSw); go_simp; (try with_reducible rfl))
              try simp only [Act.put, List.setIfInBounds_toArray, List.set_cons_zero, List.set_cons_succ]
              refine rtk 17 (oi := ⟨some 110, .move (.tmp 109), _, _, _, some (6, false)⟩) (v := ?_) rfl ?_ hH ?_
              rotate_left
              · (intro w hSw; (try dsimp only at hSw); go_simp; (try with_reducible rfl))
              try simp only [Act.put, List.setIfInBounds_toArray, List.set_cons_zero, List.set_cons_succ]
              refine rtk 18 (oi := ⟨some 111, .move (.tmp 7), _, _, _, some (17, true)⟩) (v := ?_) rfl ?_ hH ?_
              rotate_left
              · (intro w hSw; (try dsimp only at hSw); go_simp; (try with_reducible rfl))
              try simp only [Act.put, List.setIfInBounds_toArray, List.set_cons_zero, List.set_cons_succ]
              refine rtk 19 (oi := ⟨some 112, .move (.tmp 9), _, _, _, some (17, true)⟩) (v := ?_) rfl ?_ hH ?_
              rotate_left
              · (intro w hSw; (try dsimp only at hSw); go_simp; (try with_reducible rfl))
              try simp only [Act.put, List.setIfInBounds_toArray, List.set_cons_zero, List.set_cons_succ]
              refine rtk 20 (oi := ⟨some 113, .indexAddr 22 (.tmp 111) (.tmp 112), _, _, _, some (17, true)⟩) (v := ?_) rfl ?_ hH ?_
              rotate_left
              · (intro w hSw; (try dsimp only at hSw); go_simp; (try with_reducible rfl))
              try simp only [Act.put, List.setIfInBounds_toArray, List.set_cons_zero, List.set_cons_succ]
              refine rtk 21 (oi := ⟨some 114, .fieldAddr 44 (.tmp 113) 6, _, _, _, some (17, true)⟩) (v := ?_) rfl ?_ hH ?_
              rotate_left
              · (intro w hSw; (try dsimp only at hSw); go_simp; (try with_reducible rfl))
              try simp only [Act.put, List.setIfInBounds_toArray, List.set_cons_zero, List.set_cons_succ]
              refine rtk 22 (oi := ⟨some 115, .load 39 (.tmp 114), _, _, _, some (17, true)⟩) (v := ?_) rfl ?_ hH ?_
              rotate_left
              · (intro w hSw; (try dsimp only at hSw); go_simp; (try with_reducible rfl))
              try simp only [Act.put, List.setIfInBounds_toArray, List.set_cons_zero, List.set_cons_succ]
              refine rtk 23 (oi := ⟨some 116, .move (.tmp 5), _, _, _, some (17, true)⟩) (v := ?_) rfl ?_ hH ?_
              rotate_left
              · (intro w hSw; (try dsimp only at hSw); go_simp; (try with_reducible rfl))
              try simp only [Act.put, List.setIfInBounds_toArray, List.set_cons_zero, List.set_cons_succ]
              refine rtk 24 (oi := ⟨some 117, .move (.tmp 9), _, _, _, some (17, true)⟩) (v := ?_) rfl ?_ hH ?_
              rotate_left
              · (intro w hSw; (try dsimp only at hSw); go_simp; (try with_reducible rfl))
              try simp only [Act.put, List.setIfInBounds_toArray, List.set_cons_zero, List.set_cons_succ]
              refine rtk 25 (oi := ⟨some 118, .indexAddr 22 (.tmp 116) (.tmp 117), _, _, _, some (17, true)⟩) (v := ?_) rfl ?_ hH ?_
              rotate_left
              · (intro w hSw; (try dsimp only at hSw); go_simp; (try with_reducible rfl))
              try simp only [Act.put, List.setIfInBounds_toArray, List.set_cons_zero, List.set_cons_succ]
              refine rtk 26 (oi := ⟨some 119, .fieldAddr 44 (.tmp 118) 6, _, _, _, some (17, true)⟩) (v := ?_) rfl ?_ hH ?_
              rotate_left
              · (intro w hSw; (try dsimp only at hSw); go_simp; (try with_reducible rfl))
              try simp only [Act.put, List.setIfInBounds_toArray, List.set_cons_zero, List.set_cons_succ]
              refine rtk 27 (oi := ⟨some 120, .load 39 (.tmp 119), _, _, _, some (17, true)⟩) (v := ?_) rfl ?_ hH ?_
              rotate_left
              · (intro w hSw; (try dsimp only at hSw); go_simp; (try with_reducible rfl))
              try simp only [Act.put, List.setIfInBounds_toArray, List.set_cons_zero, List.set_cons_succ]
              refine rtk 28 (oi := ⟨some 121, .binOp .neq 39 (.tmp 115) (.tmp 120) 39, _, _, _, some (17, true)⟩) (v := ?_) rfl ?_ hH ?_
              rotate_left
              · (intro w hSw; (try dsimp only at hSw); go_simp; (try with_reducible rfl))
              try simp only [Act.put, List.setIfInBounds_toArray, List.set_cons_zero, List.set_cons_succ]
              refine rtk 29 (oi := ⟨some 122, .pick (.tmp 110) (.tmp 121) (.const (Value.bool false)), _, _, _, some (6, false)⟩) (v := ?_) rfl ?_ hH ?_
              rotate_left
              · (intro w hSw; (try dsimp only at hSw); go_simp; (try with_reducible rfl))
              refine rtk 30 (oi := ⟨some 123, .pick (.tmp 99) (.const (Value.bool true)) (.tmp 122), _, _, _, none⟩) (v := ?_) rfl ?_ hH ?_
              rotate_left
              · (intro w hSw; (try dsimp only at hSw); go_simp; (try with_reducible rfl))
              try simp only [Act.put, List.setIfInBounds_toArray, List.set_cons_zero, List.set_cons_succ]
              refine wpAnyH_done (by kernel_rfl) ?_ _
              refine NoPanic.normal ?_
              clear p0 p1 p2 p3 p4 p5 p6 p7 p8 p9 x0 x1 x2 x3 x4 x5 x6 x7 x8 x9 y0 y1 y2 y3 y4 y5 y6 y7 y8 y9 gg
              obtain ⟨p0, p1, p2, p3, p4, p5, p6, p7, p8, p9, x0, x1, x2, x3, x4, x5, x6, x7, x8, x9, y0, y1, y2, y3, y4, y5, y6, y7, y8, y9, gg⟩ := hH
              go_wp2_with fail
              go_roundw
              case rel => exact ⟨k + 1, by omega, by go_num, Lib.hid gg⟩
              case measure => simp [RowKit.intOf]; omega
            · have m0 : (x.m == 0) = false := beq_eq_false_iff_ne.2 hm0
              obtain rfl : z = false := hm.elim (fun e => absurd e hm0) id
              clear hm hm0
              refine wp_region_noPanic ?_
              refine wp_region_held_drew (S := (fun w' => w'.cell? ⟨wr.heap.size, 0, none⟩ = some (.int .u32 x.k) ∧ w'.cell? ⟨wr.heap.size, 1, none⟩ = some (.int .i32 x.r) ∧ w'.cell? ⟨wr.heap.size, 2, none⟩ = some (.int .i32 x.ax) ∧ w'.cell? ⟨wr.heap.size, 3, none⟩ = some (.int .i32 x.ay) ∧ w'.cell? ⟨wr.heap.size, 4, none⟩ = some (.int .i32 x.m) ∧ w'.cell? ⟨wr.heap.size, 5, none⟩ = some (.int .i32 x.o) ∧ w'.cell? ⟨wr.heap.size, 6, none⟩ = some (.int .i32 x.px) ∧ w'.cell? ⟨wr.heap.size, 7, none⟩ = some (.int .i32 x.py) ∧ w'.cell? ⟨wr.heap.size, 8, none⟩ = some (.int .i32 x.vx) ∧ w'.cell? ⟨wr.heap.size, 9, none⟩ = some (.int .i32 x.vy) ∧ w'.cell? ⟨gl, off + k * 10, none⟩ = some (.int .u32 x.k) ∧ w'.cell? ⟨gl, off + k * 10 + 1, none⟩ = some (.int .i32 x.r) ∧ w'.cell? ⟨gl, off + k * 10 + 2, none⟩ = some (.int .i32 x.ax) ∧ w'.cell? ⟨gl, off + k * 10 + 3, none⟩ = some (.int .i32 x.ay) ∧ w'.cell? ⟨gl, off + k * 10 + 4, none⟩ = some (.int .i32 x.m) ∧ w'.cell? ⟨gl, off + k * 10 + 5, none⟩ = some (.int .i32 x.o) ∧ w'.cell? ⟨gl, off + k * 10 + 6, none⟩ = some (.int .i32 x.px) ∧ w'.cell? ⟨gl, off + k * 10 + 7, none⟩ = some (.int .i32 x.py) ∧ w'.cell? ⟨gl, off + k * 10 + 8, none⟩ = some (.int .i32 x.vx) ∧ w'.cell? ⟨gl, off + k * 10 + 9, none⟩ = some (.int .i32 x.vy) ∧ w'.cell? ⟨gs, os + k * 10, none⟩ = some (.int .u32 x.k) ∧ w'.cell? ⟨gs, os + k * 10 + 1, none⟩ = some (.int .i32 x.r) ∧ w'.cell? ⟨gs, os + k * 10 + 2, none⟩ = some (.int .i32 x.ax) ∧ w'.cell? ⟨gs, os + k * 10 + 3, none⟩ = some (.int .i32 x.ay) ∧ w'.cell? ⟨gs, os + k * 10 + 4, none⟩ = some (.int .i32 x.m) ∧ w'.cell? ⟨gs, os + k * 10 + 5, none⟩ = some (.int .i32 x.o) ∧ w'.cell? ⟨gs, os + k * 10 + 6, none⟩ = some (.int .i32 x.px) ∧ w'.cell? ⟨gs, os + k * 10 + 7, none⟩ = some (.int .i32 x.py) ∧ w'.cell? ⟨gs, os + k * 10 + 8, none⟩ = some (.int .i32 x.vx) ∧ w'.cell? ⟨gs, os + k * 10 + 9, none⟩ = some (.int .i32 x.vy) ∧ Kep w4.heap.size w4 w')) (by kernel_rfl) (⟨by rw [World.cell?_drew]; exact p0, by rw [World.cell?_drew]; exact p1, by rw [World.cell?_drew]; exact p2, by rw [World.cell?_drew]; exact p3, by rw [World.cell?_drew]; exact p4, by rw [World.cell?_drew]; exact p5, by rw [World.cell?_drew]; exact p6, by rw [World.cell?_drew]; exact p7, by rw [World.cell?_drew]; exact p8, by rw [World.cell?_drew]; exact p9, by rw [World.cell?_drew]; exact x0, by rw [World.cell?_drew]; exact x1, by rw [World.cell?_drew]; exact x2, by rw [World.cell?_drew]; exact x3, by rw [World.cell?_drew]; exact x4, by rw [World.cell?_drew]; exact x5, by rw [World.cell?_drew]; exact x6, by rw [World.cell?_drew]; exact x7, by rw [World.cell?_drew]; exact x8, by rw [World.cell?_drew]; exact x9, by rw [World.cell?_drew]; exact y0, by rw [World.cell?_drew]; exact y1, by rw [World.cell?_drew]; exact y2, by rw [World.cell?_drew]; exact y3, by rw [World.cell?_drew]; exact y4, by rw [World.cell?_drew]; exact y5, by rw [World.cell?_drew]; exact y6, by rw [World.cell?_drew]; exact y7, by rw [World.cell?_drew]; exact y8, by rw [World.cell?_drew]; exact y9, kep_drew gg⟩) (fun hH => ?_)
              refine rtk 0 (oi := ⟨some 93, .load 44 (.tmp 10), _, _, _, none⟩) (v := ?_) rfl ?_ hH ?_
              rotate_left
              · (intro w hSw; (try dsimp only at hSw); go_simp; (try with_reducible rfl))
              refine rtk 1 (oi := ⟨some 94, .move (.tmp 5), _, _, _, none⟩) (v := ?_) rfl ?_ hH ?_
              rotate_left
              · (intro w hSw; (try dsimp only at hSw); go_simp; (try with_reducible rfl))
              refine rtk 2 (oi := ⟨some 95, .move (.tmp 9), _, _, _, none⟩) (v := ?_) rfl ?_ hH ?_
              rotate_left
              · (intro w hSw; (try dsimp only at hSw); go_simp; (try with_reducible rfl))
              refine rtk 3 (oi := ⟨some 96, .indexAddr 22 (.tmp 94) (.tmp 95), _, _, _, none⟩) (v := ?_) rfl ?_ hH ?_
              rotate_left
              · (intro w hSw; (try dsimp only at hSw); go_simp; (try with_reducible rfl))
              try simp only [Act.put, List.setIfInBounds_toArray, List.set_cons_zero, List.set_cons_succ]
              refine rtk 4 (oi := ⟨some 97, .load 44 (.tmp 96), _, _, _, none⟩) (v := ?_) rfl ?_ hH ?_
              rotate_left
              · (intro w hSw; (try dsimp only at hSw); go_simp; (try with_reducible rfl))
              refine rtk 5 (oi := ⟨some 98, .binOp .neq 44 (.tmp 93) (.tmp 97) 44, _, _, _, none⟩) (v := ?_) rfl ?_ hH ?_
              rotate_left
              · (intro w hSw; (try dsimp only at hSw); go_simp; (try with_reducible rfl))
              refine rtk 6 (oi := ⟨some 99, .move (.tmp 98), _, _, _, none⟩) (v := ?_) rfl ?_ hH ?_
              rotate_left
              · (intro w hSw; (try dsimp only at hSw); go_simp; (try with_reducible rfl))
              try simp only [Act.put, List.setIfInBounds_toArray, List.set_cons_zero, List.set_cons_succ]
              refine rtk 7 (oi := ⟨some 100, .move (.tmp 5), _, _, _, some (6, false)⟩) (v := ?_) rfl ?_ hH ?_
              rotate_left
              · (intro w hSw; (try dsimp only at hSw); go_simp; (try with_reducible rfl))
              try simp only [Act.put, List.setIfInBounds_toArray, List.set_cons_zero, List.set_cons_succ]
              refine rtk 8 (oi := ⟨some 101, .move (.tmp 9), _, _, _, some (6, false)⟩) (v := ?_) rfl ?_ hH ?_
              rotate_left
              · (intro w hSw; (try dsimp only at hSw); go_simp; (try with_reducible rfl))
              try simp only [Act.put, List.setIfInBounds_toArray, List.set_cons_zero, List.set_cons_succ]
              refine rtk 9 (oi := ⟨some 102, .indexAddr 22 (.tmp 100) (.tmp 101), _, _, _, some (6, false)⟩) (v := ?_) rfl ?_ hH ?_
              rotate_left
              · (intro w hSw; (try dsimp only at hSw); go_simp; (try with_reducible rfl))
              try simp only [Act.put, List.setIfInBounds_toArray, List.set_cons_zero, List.set_cons_succ]
              refine rtk 10 (oi := ⟨some 103, .fieldAddr 44 (.tmp 102) 3, _, _, _, some (6, false)⟩) (v := ?_) rfl ?_ hH ?_
              rotate_left
              · (intro w hSw; (try dsimp only at hSw); go_simp; (try with_reducible rfl))
              try simp only [Act.put, List.setIfInBounds_toArray, List.set_cons_zero, List.set_cons_succ]
              refine rtk 11 (oi := ⟨some 104, .load 21 (.tmp 103), _, _, _, some (6, false)⟩) (v := ?_) rfl ?_ hH ?_
              rotate_left
              · (intro w hSw; (try dsimp only at hSw); go_simp; (try with_reducible rfl))
              try simp only [Act.put, List.setIfInBounds_toArray, List.set_cons_zero, List.set_cons_succ]
              refine rtk 12 (oi := ⟨some 105, .binOp .eql 21 (.tmp 104) (.const (Value.int IntKind.i32 0)) 21, _, _, _, some (6, false)⟩) (v := ?_) rfl ?_ hH ?_
              rotate_left
              · (intro w hSw; (try dsimp only at hSw); go_simp; (try with_reducible rfl))
              try simp only [Act.put, List.setIfInBounds_toArray, List.set_cons_zero, List.set_cons_succ]
              refine rtk 13 (oi := ⟨some 106, .move (.tmp 105), _, _, _, some (6, false)⟩) (v := ?_) rfl ?_ hH ?_
              rotate_left
              · (intro w hSw; (try dsimp only at hSw); go_simp; (try with_reducible rfl))
              try simp only [Act.put, List.setIfInBounds_toArray, List.set_cons_zero, List.set_cons_succ]
              refine rtk 14 (oi := ⟨some 107, .move (.tmp 11), _, _, _, some (13, false)⟩) (v := ?_) rfl ?_ hH ?_
              rotate_left
              · (intro w hSw; (try dsimp only at hSw); go_simp; (try with_reducible rfl))
              try simp only [Act.put, List.setIfInBounds_toArray, List.set_cons_zero, List.set_cons_succ]
              refine rtk 15 (oi := ⟨some 108, .unOp .not 4 (.tmp 107), _, _, _, some (13, false)⟩) (v := ?_) rfl ?_ hH ?_
              rotate_left
              · (intro w hSw; (try dsimp only at hSw); go_simp; (try with_reducible rfl))
              try simp only [Act.put, List.setIfInBounds_toArray, List.set_cons_zero, List.set_cons_succ]
              refine rtk 16 (oi := ⟨some 109, .pick (.tmp 106) (.const (Value.bool true)) (.tmp 108), _, _, _, some (6, false)⟩) (v := ?_) rfl ?_ hH ?_
              rotate_left
              · (intro w hSw; (try dsimp only at hSw); go_simp; (try with_reducible rfl))
              try simp only [Act.put, List.setIfInBounds_toArray, List.set_cons_zero, List.set_cons_succ]
              refine rtk 17 (oi := ⟨some 110, .move (.tmp 109), _, _, _, some (6, false)⟩) (v := ?_) rfl ?_ hH ?_
              rotate_left
              · (intro w hSw; (try dsimp only at hSw); go_simp; (try with_reducible rfl))
              try simp only [Act.put, List.setIfInBounds_toArray, List.set_cons_zero, List.set_cons_succ]
              refine rtk 18 (oi := ⟨some 111, .move (.tmp 7), _, _, _, some (17, true)⟩) (v := ?_) rfl ?_ hH ?_
              rotate_left
              · (intro w hSw; (try dsimp only at hSw); go_simp; (try with_reducible rfl))
              try simp only [Act.put, List.setIfInBounds_toArray, List.set_cons_zero, List.set_cons_succ]
              refine rtk 19 (oi := ⟨some 112, .move (.tmp 9), _, _, _, some (17, true)⟩) (v := ?_) rfl ?_ hH ?_
              rotate_left
              · (intro w hSw; (try dsimp only at hSw); go_simp; (try with_reducible rfl))
              try simp only [Act.put, List.setIfInBounds_toArray, List.set_cons_zero, List.set_cons_succ]
              refine rtk 20 (oi := ⟨some 113, .indexAddr 22 (.tmp 111) (.tmp 112), _, _, _, some (17, true)⟩) (v := ?_) rfl ?_ hH ?_
              rotate_left
              · (intro w hSw; (try dsimp only at hSw); go_simp; (try with_reducible rfl))
              try simp only [Act.put, List.setIfInBounds_toArray, List.set_cons_zero, List.set_cons_succ]
              refine rtk 21 (oi := ⟨some 114, .fieldAddr 44 (.tmp 113) 6, _, _, _, some (17, true)⟩) (v := ?_) rfl ?_ hH ?_
              rotate_left
              · (intro w hSw; (try dsimp only at hSw); go_simp; (try with_reducible rfl))
              try simp only [Act.put, List.setIfInBounds_toArray, List.set_cons_zero, List.set_cons_succ]
              refine rtk 22 (oi := ⟨some 115, .load 39 (.tmp 114), _, _, _, some (17, true)⟩) (v := ?_) rfl ?_ hH ?_
              rotate_left
              · (intro w hSw; (try dsimp only at hSw); go_simp; (try with_reducible rfl))
              try simp only [Act.put, List.setIfInBounds_toArray, List.set_cons_zero, List.set_cons_succ]
              refine rtk 23 (oi := ⟨some 116, .move (.tmp 5), _, _, _, some (17, true)⟩) (v := ?_) rfl ?_ hH ?_
              rotate_left
              · (intro w hSw; (try dsimp only at hSw); go_simp; (try with_reducible rfl))
              try simp only [Act.put, List.setIfInBounds_toArray, List.set_cons_zero, List.set_cons_succ]
              refine rtk 24 (oi := ⟨some 117, .move (.tmp 9), _, _, _, some (17, true)⟩) (v := ?_) rfl ?_ hH ?_
              rotate_left
              · (intro w hSw; (try dsimp only at hSw); go_simp; (try with_reducible rfl))
              try simp only [Act.put, List.setIfInBounds_toArray, List.set_cons_zero, List.set_cons_succ]
              refine rtk 25 (oi := ⟨some 118, .indexAddr 22 (.tmp 116) (.tmp 117), _, _, _, some (17, true)⟩) (v := ?_) rfl ?_ hH ?_
              rotate_left
              · (intro w hSw; (try dsimp only at hSw); go_simp; (try with_reducible rfl))
              try simp only [Act.put, List.setIfInBounds_toArray, List.set_cons_zero, List.set_cons_succ]
              refine rtk 26 (oi := ⟨some 119, .fieldAddr 44 (.tmp 118) 6, _, _, _, some (17, true)⟩) (v := ?_) rfl ?_ hH ?_
              rotate_left
              · (intro w hSw; (try dsimp only at hSw); go_simp; (try with_reducible rfl))
              try simp only [Act.put, List.setIfInBounds_toArray, List.set_cons_zero, List.set_cons_succ]
              refine rtk 27 (oi := ⟨some 120, .load 39 (.tmp 119), _, _, _, some (17, true)⟩) (v := ?_) rfl ?_ hH ?_
              rotate_left
              · (intro w hSw; (try dsimp only at hSw); go_simp; (try with_reducible rfl))
              try simp only [Act.put, List.setIfInBounds_toArray, List.set_cons_zero, List.set_cons_succ]
              refine rtk 28 (oi := ⟨some 121, .binOp .neq 39 (.tmp 115) (.tmp 120) 39, _, _, _, some (17, true)⟩) (v := ?_) rfl ?_ hH ?_
              rotate_left
              · (intro w hSw; (try dsimp only at hSw); go_simp; (try with_reducible rfl))
              try simp only [Act.put, List.setIfInBounds_toArray, List.set_cons_zero, List.set_cons_succ]
              refine rtk 29 (oi := ⟨some 122, .pick (.tmp 110) (.tmp 121) (.const (Value.bool false)), _, _, _, some (6, false)⟩) (v := ?_) rfl ?_ hH ?_
              rotate_left
              · (intro w hSw; (try dsimp only at hSw); go_simp; (try with_reducible rfl))
              refine rtk 30 (oi := ⟨some 123, .pick (.tmp 99) (.const (Value.bool true)) (.tmp 122), _, _, _, none⟩) (v := ?_) rfl ?_ hH ?_
              rotate_left
              · (intro w hSw; (try dsimp only at hSw); go_simp; (try with_reducible rfl))
              try simp only [Act.put, List.setIfInBounds_toArray, List.set_cons_zero, List.set_cons_succ]
              refine wpAnyH_done (by kernel_rfl) ?_ _
              refine NoPanic.normal ?_
              clear p0 p1 p2 p3 p4 p5 p6 p7 p8 p9 x0 x1 x2 x3 x4 x5 x6 x7 x8 x9 y0 y1 y2 y3 y4 y5 y6 y7 y8 y9 gg
              obtain ⟨p0, p1, p2, p3, p4, p5, p6, p7, p8, p9, x0, x1, x2, x3, x4, x5, x6, x7, x8, x9, y0, y1, y2, y3, y4, y5, y6, y7, y8, y9, gg⟩ := hH
              go_wp2_with fail
              go_roundw
              case rel => exact ⟨k + 1, by omega, by go_num, Lib.hid gg⟩
              case measure => simp [RowKit.intOf]; omega
          · have m0 : (x.m == 0) = false := beq_eq_false_iff_ne.2 fun e => hm (.inl e)
            obtain rfl : z = true := by
              cases z
              · exact absurd (.inr rfl) hm
              · rfl
            clear hm
            refine wp_region_noPanic ?_
            refine wp_region_held_drew (S := (fun w' => w'.cell? ⟨wr.heap.size, 0, none⟩ = some (.int .u32 x.k) ∧ w'.cell? ⟨wr.heap.size, 1, none⟩ = some (.int .i32 x.r) ∧ w'.cell? ⟨wr.heap.size, 2, none⟩ = some (.int .i32 x.ax) ∧ w'.cell? ⟨wr.heap.size, 3, none⟩ = some (.int .i32 x.ay) ∧ w'.cell? ⟨wr.heap.size, 4, none⟩ = some (.int .i32 x.m) ∧ w'.cell? ⟨wr.heap.size, 5, none⟩ = some (.int .i32 x.o) ∧ w'.cell? ⟨wr.heap.size, 6, none⟩ = some (.int .i32 x.px) ∧ w'.cell? ⟨wr.heap.size, 7, none⟩ = some (.int .i32 x.py) ∧ w'.cell? ⟨wr.heap.size, 8, none⟩ = some (.int .i32 x.vx) ∧ w'.cell? ⟨wr.heap.size, 9, none⟩ = some (.int .i32 x.vy) ∧ w'.cell? ⟨gl, off + k * 10, none⟩ = some (.int .u32 x.k) ∧ w'.cell? ⟨gl, off + k * 10 + 1, none⟩ = some (.int .i32 x.r) ∧ w'.cell? ⟨gl, off + k * 10 + 2, none⟩ = some (.int .i32 x.ax) ∧ w'.cell? ⟨gl, off + k * 10 + 3, none⟩ = some (.int .i32 x.ay) ∧ w'.cell? ⟨gl, off + k * 10 + 4, none⟩ = some (.int .i32 x.m) ∧ w'.cell? ⟨gl, off + k * 10 + 5, none⟩ = some (.int .i32 x.o) ∧ w'.cell? ⟨gl, off + k * 10 + 6, none⟩ = some (.int .i32 x.px) ∧ w'.cell? ⟨gl, off + k * 10 + 7, none⟩ = some (.int .i32 x.py) ∧ w'.cell? ⟨gl, off + k * 10 + 8, none⟩ = some (.int .i32 x.vx) ∧ w'.cell? ⟨gl, off + k * 10 + 9, none⟩ = some (.int .i32 x.vy) ∧ w'.cell? ⟨gs, os + k * 10, none⟩ = some (.int .u32 x.k) ∧ w'.cell? ⟨gs, os + k * 10 + 1, none⟩ = some (.int .i32 x.r) ∧ w'.cell? ⟨gs, os + k * 10 + 2, none⟩ = some (.int .i32 x.ax) ∧ w'.cell? ⟨gs, os + k * 10 + 3, none⟩ = some (.int .i32 x.ay) ∧ w'.cell? ⟨gs, os + k * 10 + 4, none⟩ = some (.int .i32 x.m) ∧ w'.cell? ⟨gs, os + k * 10 + 5, none⟩ = some (.int .i32 x.o) ∧ w'.cell? ⟨gs, os + k * 10 + 6, none⟩ = some (.int .i32 x.px) ∧ w'.cell? ⟨gs, os + k * 10 + 7, none⟩ = some (.int .i32 x.py) ∧ w'.cell? ⟨gs, os + k * 10 + 8, none⟩ = some (.int .i32 y.vx) ∧ w'.cell? ⟨gs, os + k * 10 + 9, none⟩ = some (.int .i32 y.vy) ∧ Kep w4.heap.size w4 w')) (by kernel_rfl) (⟨by rw [World.cell?_drew]; exact p0, by rw [World.cell?_drew]; exact p1, by rw [World.cell?_drew]; exact p2, by rw [World.cell?_drew]; exact p3, by rw [World.cell?_drew]; exact p4, by rw [World.cell?_drew]; exact p5, by rw [World.cell?_drew]; exact p6, by rw [World.cell?_drew]; exact p7, by rw [World.cell?_drew]; exact p8, by rw [World.cell?_drew]; exact p9, by rw [World.cell?_drew]; exact x0, by rw [World.cell?_drew]; exact x1, by rw [World.cell?_drew]; exact x2, by rw [World.cell?_drew]; exact x3, by rw [World.cell?_drew]; exact x4, by rw [World.cell?_drew]; exact x5, by rw [World.cell?_drew]; exact x6, by rw [World.cell?_drew]; exact x7, by rw [World.cell?_drew]; exact x8, by rw [World.cell?_drew]; exact x9, by rw [World.cell?_drew]; exact y0, by rw [World.cell?_drew]; exact y1, by rw [World.cell?_drew]; exact y2, by rw [World.cell?_drew]; exact y3, by rw [World.cell?_drew]; exact y4, by rw [World.cell?_drew]; exact y5, by rw [World.cell?_drew]; exact y6, by rw [World.cell?_drew]; exact y7, by rw [World.cell?_drew]; exact y8, by rw [World.cell?_drew]; exact y9, kep_drew gg⟩) (fun hH => ?_)
            refine rtk 0 (oi := ⟨some 93, .load 44 (.tmp 10), _, _, _, none⟩) (v := ?_) rfl ?_ hH ?_
            rotate_left
            · (intro w hSw; (try dsimp only at hSw); go_simp; (try with_reducible rfl))
            refine rtk 1 (oi := ⟨some 94, .move (.tmp 5), _, _, _, none⟩) (v := ?_) rfl ?_ hH ?_
            rotate_left
            · (intro w hSw; (try dsimp only at hSw); go_simp; (try with_reducible rfl))
            refine rtk 2 (oi := ⟨some 95, .move (.tmp 9), _, _, _, none⟩) (v := ?_) rfl ?_ hH ?_
            rotate_left
            · (intro w hSw; (try dsimp only at hSw); go_simp; (try with_reducible rfl))
            refine rtk 3 (oi := ⟨some 96, .indexAddr 22 (.tmp 94) (.tmp 95), _, _, _, none⟩) (v := ?_) rfl ?_ hH ?_
            rotate_left
            · (intro w hSw; (try dsimp only at hSw); go_simp; (try with_reducible rfl))
            try simp only [Act.put, List.setIfInBounds_toArray, List.set_cons_zero, List.set_cons_succ]
            refine rtk 4 (oi := ⟨some 97, .load 44 (.tmp 96), _, _, _, none⟩) (v := ?_) rfl ?_ hH ?_
            rotate_left
            · (intro w hSw; (try dsimp only at hSw); go_simp; (try with_reducible rfl))
            refine rtk 5 (oi := ⟨some 98, .binOp .neq 44 (.tmp 93) (.tmp 97) 44, _, _, _, none⟩) (v := ?_) rfl ?_ hH ?_
            rotate_left
            · (intro w hSw; (try dsimp only at hSw); go_simp; (try with_reducible rfl))
            refine rtk 6 (oi := ⟨some 99, .move (.tmp 98), _, _, _, none⟩) (v := ?_) rfl ?_ hH ?_
            rotate_left
            · (intro w hSw; (try dsimp only at hSw); go_simp; (try with_reducible rfl))
            try simp only [Act.put, List.setIfInBounds_toArray, List.set_cons_zero, List.set_cons_succ]
            refine rtk 7 (oi := ⟨some 100, .move (.tmp 5), _, _, _, some (6, false)⟩) (v := ?_) rfl ?_ hH ?_
            rotate_left
            · (intro w hSw; (try dsimp only at hSw); go_simp; (try with_reducible rfl))
            try simp only [Act.put, List.setIfInBounds_toArray, List.set_cons_zero, List.set_cons_succ]
            refine rtk 8 (oi := ⟨some 101, .move (.tmp 9), _, _, _, some (6, false)⟩) (v := ?_) rfl ?_ hH ?_
            rotate_left
            · (intro w hSw; (try dsimp only at hSw); go_simp; (try with_reducible rfl))
            try simp only [Act.put, List.setIfInBounds_toArray, List.set_cons_zero, List.set_cons_succ]
            refine rtk 9 (oi := ⟨some 102, .indexAddr 22 (.tmp 100) (.tmp 101), _, _, _, some (6, false)⟩) (v := ?_) rfl ?_ hH ?_
            rotate_left
            · (intro w hSw; (try dsimp only at hSw); go_simp; (try with_reducible rfl))
            try simp only [Act.put, List.setIfInBounds_toArray, List.set_cons_zero, List.set_cons_succ]
            refine rtk 10 (oi := ⟨some 103, .fieldAddr 44 (.tmp 102) 3, _, _, _, some (6, false)⟩) (v := ?_) rfl ?_ hH ?_
            rotate_left
            · (intro w hSw; (try dsimp only at hSw); go_simp; (try with_reducible rfl))
            try simp only [Act.put, List.setIfInBounds_toArray, List.set_cons_zero, List.set_cons_succ]
            refine rtk 11 (oi := ⟨some 104, .load 21 (.tmp 103), _, _, _, some (6, false)⟩) (v := ?_) rfl ?_ hH ?_
            rotate_left
            · (intro w hSw; (try dsimp only at hSw); go_simp; (try with_reducible rfl))
            try simp only [Act.put, List.setIfInBounds_toArray, List.set_cons_zero, List.set_cons_succ]
            refine rtk 12 (oi := ⟨some 105, .binOp .eql 21 (.tmp 104) (.const (Value.int IntKind.i32 0)) 21, _, _, _, some (6, false)⟩) (v := ?_) rfl ?_ hH ?_
            rotate_left
            · (intro w hSw; (try dsimp only at hSw); go_simp; (try with_reducible rfl))
            try simp only [Act.put, List.setIfInBounds_toArray, List.set_cons_zero, List.set_cons_succ]
            refine rtk 13 (oi := ⟨some 106, .move (.tmp 105), _, _, _, some (6, false)⟩) (v := ?_) rfl ?_ hH ?_
            rotate_left
            · (intro w hSw; (try dsimp only at hSw); go_simp; (try with_reducible rfl))
            try simp only [Act.put, List.setIfInBounds_toArray, List.set_cons_zero, List.set_cons_succ]
            refine rtk 14 (oi := ⟨some 107, .move (.tmp 11), _, _, _, some (13, false)⟩) (v := ?_) rfl ?_ hH ?_
            rotate_left
            · (intro w hSw; (try dsimp only at hSw); go_simp; (try with_reducible rfl))
            try simp only [Act.put, List.setIfInBounds_toArray, List.set_cons_zero, List.set_cons_succ]
            refine rtk 15 (oi := ⟨some 108, .unOp .not 4 (.tmp 107), _, _, _, some (13, false)⟩) (v := ?_) rfl ?_ hH ?_
            rotate_left
            · (intro w hSw; (try dsimp only at hSw); go_simp; (try with_reducible rfl))
            try simp only [Act.put, List.setIfInBounds_toArray, List.set_cons_zero, List.set_cons_succ]
            refine rtk 16 (oi := ⟨some 109, .pick (.tmp 106) (.const (Value.bool true)) (.tmp 108), _, _, _, some (6, false)⟩) (v := ?_) rfl ?_ hH ?_
            rotate_left
            · (intro w hSw; (try dsimp only at hSw); go_simp; (try with_reducible rfl))
            try simp only [Act.put, List.setIfInBounds_toArray, List.set_cons_zero, List.set_cons_succ]
            refine rtk 17 (oi := ⟨some 110, .move (.tmp 109), _, _, _, some (6, false)⟩) (v := ?_) rfl ?_ hH ?_
            rotate_left
            · (intro w hSw; (try dsimp only at hSw); go_simp; (try with_reducible rfl))
            try simp only [Act.put, List.setIfInBounds_toArray, List.set_cons_zero, List.set_cons_succ]
            refine rtu 18 (oi := ⟨some 111, .move (.tmp 7), _, _, _, some (17, true)⟩) rfl hH ?_
            try simp only [Act.put, List.setIfInBounds_toArray, List.set_cons_zero, List.set_cons_succ]
            refine rtu 19 (oi := ⟨some 112, .move (.tmp 9), _, _, _, some (17, true)⟩) rfl hH ?_
            try simp only [Act.put, List.setIfInBounds_toArray, List.set_cons_zero, List.set_cons_succ]
            refine rtu 20 (oi := ⟨some 113, .indexAddr 22 (.tmp 111) (.tmp 112), _, _, _, some (17, true)⟩) rfl hH ?_
            try simp only [Act.put, List.setIfInBounds_toArray, List.set_cons_zero, List.set_cons_succ]
            refine rtu 21 (oi := ⟨some 114, .fieldAddr 44 (.tmp 113) 6, _, _, _, some (17, true)⟩) rfl hH ?_
            try simp only [Act.put, List.setIfInBounds_toArray, List.set_cons_zero, List.set_cons_succ]
            refine rtu 22 (oi := ⟨some 115, .load 39 (.tmp 114), _, _, _, some (17, true)⟩) rfl hH ?_
            try simp only [Act.put, List.setIfInBounds_toArray, List.set_cons_zero, List.set_cons_succ]
            refine rtu 23 (oi := ⟨some 116, .move (.tmp 5), _, _, _, some (17, true)⟩) rfl hH ?_
            try simp only [Act.put, List.setIfInBounds_toArray, List.set_cons_zero, List.set_cons_succ]
            refine rtu 24 (oi := ⟨some 117, .move (.tmp 9), _, _, _, some (17, true)⟩) rfl hH ?_
            try simp only [Act.put, List.setIfInBounds_toArray, List.set_cons_zero, List.set_cons_succ]
            refine rtu 25 (oi := ⟨some 118, .indexAddr 22 (.tmp 116) (.tmp 117), _, _, _, some (17, true)⟩) rfl hH ?_
            try simp only [Act.put, List.setIfInBounds_toArray, List.set_cons_zero, List.set_cons_succ]
            refine rtu 26 (oi := ⟨some 119, .fieldAddr 44 (.tmp 118) 6, _, _, _, some (17, true)⟩) rfl hH ?_
            try simp only [Act.put, List.setIfInBounds_toArray, List.set_cons_zero, List.set_cons_succ]
            refine rtu 27 (oi := ⟨some 120, .load 39 (.tmp 119), _, _, _, some (17, true)⟩) rfl hH ?_
            try simp only [Act.put, List.setIfInBounds_toArray, List.set_cons_zero, List.set_cons_succ]
            refine rtu 28 (oi := ⟨some 121, .binOp .neq 39 (.tmp 115) (.tmp 120) 39, _, _, _, some (17, true)⟩) rfl hH ?_
            try simp only [Act.put, List.setIfInBounds_toArray, List.set_cons_zero, List.set_cons_succ]
            refine rtk 29 (oi := ⟨some 122, .pick (.tmp 110) (.tmp 121) (.const (Value.bool false)), _, _, _, some (6, false)⟩) (v := ?_) rfl ?_ hH ?_
            rotate_left
            · (intro w hSw; (try dsimp only at hSw); go_simp; (try with_reducible rfl))
            refine rtk 30 (oi := ⟨some 123, .pick (.tmp 99) (.const (Value.bool true)) (.tmp 122), _, _, _, none⟩) (v := ?_) rfl ?_ hH ?_
            rotate_left
            · (intro w hSw; (try dsimp only at hSw); go_simp; (try with_reducible rfl))
            try simp only [Act.put, List.setIfInBounds_toArray, List.set_cons_zero, List.set_cons_succ]
            refine wpAnyH_done (by kernel_rfl) ?_ _
            refine NoPanic.normal ?_
            clear p0 p1 p2 p3 p4 p5 p6 p7 p8 p9 x0 x1 x2 x3 x4 x5 x6 x7 x8 x9 y0 y1 y2 y3 y4 y5 y6 y7 y8 y9 gg
            obtain ⟨p0, p1, p2, p3, p4, p5, p6, p7, p8, p9, x0, x1, x2, x3, x4, x5, x6, x7, x8, x9, y0, y1, y2, y3, y4, y5, y6, y7, y8, y9, gg⟩ := hH
            go_wp2_with fail
            go_roundw
            case rel => exact ⟨k + 1, by omega, by go_num, Lib.hid gg⟩
            case measure => simp [RowKit.intOf]; omega
    · obtain rfl : k = na := by omega
      have gi := HP.out
      go_wp2_with fail
      go_ret
      exact ⟨rfl, kep_next G0.out gi⟩
/-- The law JacobiVelocities. -/
theorem jvl_law (O : JOps) (AW : JAwake)  (L : List Bd) (v : Value) (w : World) (hq : Lst w v L) (C : List Ct) (l : Value) (hc : Sq ctv 5 w l C) (HF : ∀ x ∈ L, Fits x) : Calls Try.prog 5 #[v, l] w fun e w' => e = .returned (.bool true) ∧ Kep w.heap.size w w' := by
  cases hvw : viwB L
  · exact jvl_bad (Lib.hid AW)  L v w hq C l hc hvw
  · cases hr : rgtJ (sortL L) C
    · exact jvl_not (Lib.hid AW)  L v w hq C l hc (Lib.hid HF) hvw hr
    · exact jvl_ok O (Lib.hid AW)  L v w hq C l hc (Lib.hid HF) hvw hr
end Go.Proofs.Ytbeaoogjcgplnaa
