/-
  Package integrate: the law IntegrateLimits.
-/
import Derived.Test.YtlabeelbbkbkaaaIntLib
import Derived.Deep.DeepCutAuto
import Derived.Deep.QuietTactic
import Derived.BigQuiet
namespace Go.Proofs.Ytlabeelbbkbkaaa
open Go.RowKit Go.Lib

theorem grv_vel (x : Bd) : ∃ y, grvB x = velB x x.vx y ∧ (x.m ≤ 0 → y = x.vy) ∧ (grvC x = false → 0 < x.m → y = x.vy - 1024) := by
  unfold grvB
  by_cases h : 0 < x.m
  · refine ⟨_, if_pos h, fun q => by omega, fun q _ => ?_⟩
    unfold grvC at q
    rw [decide_eq_true h, Bool.true_and, decide_eq_false_iff_not, Decidable.not_not] at q
    rw [q]
    rfl
  · exact ⟨x.vy, by rw [if_neg h]; rfl, fun _ => rfl, fun _ q => absurd q h⟩
theorem any_noB {L : List Bd} {t : Bd → Bool} (h : L.any t = false) {x : Bd} (hx : x ∈ L) : t x = false := by
  have := List.any_eq_false.1 h x hx
  simpa using this
theorem any_noZ {L : List Bool} (h : L.any id = false) {z : Bool} (hz : z ∈ L) : z = false := by
  have := List.any_eq_false.1 h z hz
  simpa using this
theorem drewN_two (w : World) (a b : Nat) : (w.drewN a).drewN b = w.drewN (a + b) := by simp [World.drewN, Nat.add_assoc]
theorem wr6 {n : Int} (h : -9223372036854775808 ≤ n ∧ n ≤ 9223372036854775807) : IntKind.i64.wrap n = n := by rw [IntKind.wrap_i64]; omega
theorem wr64 {n : Int} (h : -9223372036854775808 ≤ n ∧ n ≤ 9223372036854775807) : wrap64 n = n := by unfold wrap64; omega
theorem yll_w {x : Bd} (h : Vb x) : IntKind.i32.wrap (x.vy - 1024) = x.vy - 1024 ∧ wrap32 (x.vy - 1024) = x.vy - 1024 := by
  have x2 := h.vy0; have x3 := h.vy1
  exact ⟨by rw [IntKind.wrap_i32]; omega, by unfold wrap32; omega⟩
/-- The numbers that the law reckons with, of one component: p: the position, t: the shift, v: the velocity, m: the new position. -/
theorem yll_num {p t v m : Int} {c : Bool} (hp : -1073741824 ≤ p ∧ p ≤ 1073741824) (ht : Si t) (hv : -16777216 ≤ v ∧ v ≤ 16777216) (hm : -1073741824 ≤ m ∧ m ≤ 1073741824) (hc : c = false → m = p + t + v / 64) :
    ∃ d e : Int, ((IntKind.i64.wrap m = m ∧ IntKind.i64.wrap p = p ∧ IntKind.i64.wrap v = v) ∧ (IntKind.i64.wrap (m - p) = d ∧ wrap64 (m - p) = d) ∧ (IntKind.i64.wrap (d - t) = e ∧ wrap64 (d - t) = e)) ∧ (c = false → ∃ q r : Int, wrap64 (64 * e) = q ∧ wrap64 (q + 64) = r ∧ decide (v < q) = false ∧ decide (r ≤ v) = false) := by
  have h1 := ht.1
  have h2 := ht.2
  refine ⟨m - p, m - p - t, ⟨⟨wr6 (by omega), wr6 (by omega), wr6 (by omega)⟩, ⟨wr6 (by omega), wr64 (by omega)⟩, wr6 (by omega), wr64 (by omega)⟩, fun q => ?_⟩
  have e := hc q
  have f : m - p - t = v / 64 := by omega
  rw [f]
  exact ⟨64 * (v / 64), 64 * (v / 64) + 64, wr64 (by omega), wr64 (by omega), decide_eq_false (by omega), decide_eq_false (by omega)⟩
set_option maxRecDepth 100000 in
set_option maxHeartbeats 2000000 in
theorem yll_bad (AW : Hid YAwake)  (L : List Bd) (v : Value) (w : World) (hq : Lst w v L) (S : List Sh) (sv : Value) (hs : Sq shv 2 w sv S) (hvw : viwB L = false) : Calls Try.prog 4 #[v, sv] w fun e w' => e = .returned (.bool true) ∧ Kep w.heap.size w w' := by
  obtain ⟨base, cap, rfl⟩ := hq.shape
  have HQ := Lib.hid hq
  have HC := Lib.hid hs
  clear hq hs
  have VW : Hid (∀ v w, Lst w v L → Calls Try.prog 8 #[v] w fun e w' => ∃ v', e = .returned (.tuple #[v', .bool false]) ∧ Lst w' v' (if L.length ≤ 40 then sortL L else []) ∧ Kep w.heap.size w w') := Lib.hid (fun v w h => (rvw L v w h).mono fun e w' ⟨v', h1, h2, h3⟩ => ⟨v', by rw [h1]; rw [hvw], h2.1, h3⟩)
  clear HC
  go_enter Try.func4, Try.ntmps4
  go_wp2_with (first
    | ((with_reducible refine (VW.out _ _ (HQ.out.kep (Kep.refl _ _))).mono ?_); rintro e w1 ⟨v1, rfl, l1, g1⟩
       have gg := kep_next (Kep.refl _ _) g1)
    | ((with_reducible refine (AW.out _).mono ?_); rintro e w2 ⟨rfl, g2⟩
       replace gg := kep_next gg g2
       replace l1 := l1.kep g2))
  go_ret
  exact ⟨rfl, gg⟩
set_option maxRecDepth 100000 in
set_option maxHeartbeats 8000000 in
theorem yll_ok (O : YOps) (AW : Hid YAwake)  (L : List Bd) (v : Value) (w : World) (hq : Lst w v L) (S : List Sh) (sv : Value) (hs : Sq shv 2 w sv S) (HF : Hid (∀ x ∈ L, Fits x)) (hvw : viwB L = true) : Calls Try.prog 4 #[v, sv] w fun e w' => e = .returned (.bool true) ∧ Kep w.heap.size w w' := by
  obtain ⟨base, cap, rfl⟩ := hq.shape
  have HQ := Lib.hid hq
  have HC := Lib.hid hs
  clear hq hs
  have VW : Hid (∀ v w, Lst w v L → Calls Try.prog 8 #[v] w fun e w' => ∃ v', e = .returned (.tuple #[v', .bool true]) ∧ Lst w' v' (sortL L) ∧ Kep w.heap.size w w') := Lib.hid (fun v w h => (rvw L v w h).mono fun e w' ⟨v', h1, h2, h3⟩ => ⟨v', by rw [h1]; rw [hvw], by have := h2.1; rw [if_pos (vw_of hvw HF.out).1] at this; exact this, h3⟩)
  have HVW := Lib.hid (vw_of hvw HF.out).2.2
  obtain ⟨A, hA⟩ : ∃ A, A = sortL L := ⟨_, rfl⟩
  rw [← hA] at VW HVW
  clear hA
  have hal := HVW.out.len
  have HOK := Lib.hid HVW.out.ok
  have HTI := Lib.hid (fitL_in S A.length)
  have hTL := fitL_len S A.length
  have FT := Lib.hid (fun v w h => lfit S A.length (by omega) v w h)
  generalize fitL S A.length = T at *
  have FW := Lib.hid (fun v w h => lfwd T (by omega) v w h)
  have PG := Lib.hid (fun v w h => O.grv v A w h (by omega) HOK.out)
  have PM := Lib.hid (fun v s w h k => O.mvq v A s T w h k (by omega) hTL HOK.out HTI.out)
  have ZG := Lib.hid (fun (h : A.any grvC = false) x (hx : x ∈ A) => any_noB h hx)
  have ZM := Lib.hid (fun (h : (mtA A T).any id = false) z (hz : z ∈ mtA A T) => any_noZ h hz)
  have HTN := Lib.hid hTL
  obtain ⟨zg, hzg⟩ : ∃ z, z = A.any grvC := ⟨_, rfl⟩
  obtain ⟨zm, hzm⟩ : ∃ z, z = (mtA A T).any id := ⟨_, rfl⟩
  rw [← hzg] at PG ZG
  rw [← hzm] at PM ZM
  have HML := Lib.hid (mtL_len hTL)
  clear hzg hzm hTL
  generalize hna : A.length = na at *
  have HNA := Lib.hid hna
  clear hna
  go_enter Try.func4, Try.ntmps4
  go_upto_region 9 with (first
    | ((with_reducible refine (VW.out _ _ (HQ.out.kep (Kep.refl _ _))).mono ?_); rintro e w1 ⟨v1, rfl, l1, g1⟩
       have gg := kep_next (Kep.refl _ _) g1
       obtain ⟨bl, cl, rfl⟩ := l1.shape
       rw [HNA.out] at l1 ⊢)
    | ((with_reducible refine (AW.out _).mono ?_); rintro e w2 ⟨rfl, g2⟩
       replace gg := kep_next gg g2
       replace l1 := l1.kep g2)
    | ((with_reducible refine (FT.out _ _ (HC.out.kep gg)).mono ?_); rintro e w3 ⟨v3, rfl, s3, g3⟩; replace gg := kep_next gg g3; replace l1 := l1.kep g3)
    | ((with_reducible refine (PG.out _ _ l1).mono ?_); rintro e w4 ⟨v4, rfl, l4, g4⟩; replace gg := kep_next gg g4; replace l1 := l1.kep g4; replace s3 := s3.kep g4; obtain ⟨bg, cg, rfl⟩ := l4.shape; rw [List.length_map, HNA.out] at l4 ⊢)
    | ((with_reducible refine (FW.out _ _ s3).mono ?_); rintro e w6 ⟨v6, rfl, s6, g6⟩; replace gg := kep_next gg g6; replace l1 := l1.kep g6; replace s3 := s3.kep g6; replace l4 := l4.kep g6)
    | ((with_reducible refine (PM.out _ _ _ l1 s6).mono ?_); rintro e w7 ⟨v7, rfl, l7, g7⟩; replace gg := kep_next gg g7; replace l1 := l1.kep g7; replace s3 := s3.kep g7; replace l4 := l4.kep g7; obtain ⟨bm, cm, rfl⟩ := l7.shape; rw [HML.out] at l7 ⊢))
  have HL := Lib.hid l1
  have HG := Lib.hid l4
  have HM := Lib.hid l7
  obtain ⟨bt, ct, rfl, ht⟩ := s3
  have HT := Lib.hid ht
  rw [HTN.out]
  have G0 := Lib.hid gg
  clear l1 l4 l7 ht gg s6
  go_wp2_with fail
  go_loopw [12] (fun i wr => ∃ k : Nat, k ≤ na ∧ i = .int .i64 k ∧ Hid (Kep w7.heap.size w7 wr)) (fun i _ => na - (RowKit.intOf i).toNat)
  case atStart => exact ⟨0, by omega, rfl, Lib.hid (Kep.refl _ _)⟩
  case round =>
    obtain ⟨k, hk, rfl, HP⟩ := hrel
    by_cases hlt : k < na
    · have hb : A[k]? = some (A[k]'(by rw [HNA.out]; exact hlt)) := List.getElem?_eq_getElem _
      generalize A[k]'(by rw [HNA.out]; exact hlt) = x at hb
      have ht : T[k]? = some (T[k]'(by rw [HTN.out]; exact hlt)) := List.getElem?_eq_getElem _
      generalize T[k]'(by rw [HTN.out]; exact hlt) = s at ht
      have hm := List.mem_of_getElem? hb
      have hok := HOK.out x hm
      have hsn := HTI.out s (List.mem_of_getElem? ht)
      have hv := vb_of hok
      have hp := pb_of hok
      obtain ⟨gy, hgy, ey0, ey1⟩ := grv_vel x
      have CG := Lib.hid (yck (grvB x))
      rw [show chk (grvB x).r (grvB x).ax (grvB x).ay (grvB x).m (grvB x).o (grvB x).px (grvB x).py (grvB x).vx (grvB x).vy = 0 from ok_grv hok, hgy] at CG
      have CM := Lib.hid (yck (mtB x s))
      rw [show chk (mtB x s).r (mtB x s).ax (mtB x s).ay (mtB x s).m (mtB x s).o (mtB x s).px (mtB x s).py (mtB x s).vx (mtB x s).vy = 0 from ok_mv s hok] at CM
      replace CG : Hid (∀ w, Calls Try.prog 19 #[.agg #[.int .u32 x.k, .int .i32 x.r, .int .i32 x.ax, .int .i32 x.ay, .int .i32 x.m, .int .i32 x.o, .int .i32 x.px, .int .i32 x.py, .int .i32 x.vx, .int .i32 gy]] w fun e w' => e = .returned (.int .i64 0) ∧ Kep w.heap.size w w') := Lib.hid (fun w => CG.out w)
      obtain ⟨gl, off, rfl, qx⟩ := HL.out.at_ hb
      obtain ⟨gs, os, rfl, qs⟩ := HT.out k s ht
      obtain ⟨gq, oq, rfl, qg⟩ := HG.out.at_ (show (A.map grvB)[k]? = some (velB x x.vx gy) by rw [List.getElem?_map, hb, ← hgy]; rfl)
      obtain ⟨gm, om, rfl, qm⟩ := HM.out.at_ (mtL_at hb ht)
      have EG := Lib.hid (fun h1 => ey1 (ZG.out h1 x hm))
      have EM := Lib.hid (fun h1 => ZM.out h1 _ (List.mem_of_getElem? (mtA_at hb ht)))
      have lb1 := limW_bd (mtX x s)
      have lb2 := limW_bd (mtY x s)
      obtain ⟨mx, hmx⟩ : ∃ z, z = limW (mtX x s) := ⟨_, rfl⟩
      obtain ⟨my, hmy⟩ : ∃ z, z = limW (mtY x s) := ⟨_, rfl⟩
      have hmB : mtB x s = plB x mx my := by rw [hmx, hmy]; rfl
      rw [hmB] at CM qm
      replace CM : Hid (∀ w, Calls Try.prog 19 #[.agg #[.int .u32 x.k, .int .i32 x.r, .int .i32 x.ax, .int .i32 x.ay, .int .i32 x.m, .int .i32 x.o, .int .i32 mx, .int .i32 my, .int .i32 x.vx, .int .i32 x.vy]] w fun e w' => e = .returned (.int .i64 0) ∧ Kep w.heap.size w w') := Lib.hid (fun w => CM.out w)
      rw [← hmx] at lb1
      rw [← hmy] at lb2
      have EZ : zm = false → mx = x.px + s.1 + x.vx / 64 ∧ my = x.py + s.2 + x.vy / 64 := fun h1 => by
        have q := EM.out h1
        unfold mtC at q
        rw [Bool.or_eq_false_iff, decide_eq_false_iff_not, decide_eq_false_iff_not, Decidable.not_not, Decidable.not_not, ← hmx, ← hmy] at q
        exact q
      obtain ⟨d1, dx, NX, EX⟩ := yll_num (c := zm) ⟨hp.px0, hp.px1⟩ hsn.1 ⟨hv.vx0, hv.vx1⟩ lb1 (fun h => (EZ h).1)
      obtain ⟨d2, dy, NY, EY⟩ := yll_num (c := zm) ⟨hp.py0, hp.py1⟩ hsn.2 ⟨hv.vy0, hv.vy1⟩ lb2 (fun h => (EZ h).2)
      have HX := Lib.hid EX
      have HY := Lib.hid EY
      have HNX := Lib.hid NX
      have HNY := Lib.hid NY
      have HW := Lib.hid (yll_w hv)
      have M0 := Lib.hid (fun (h : x.m = 0) => ey0 (by omega))
      have MP := Lib.hid (show x.m ≠ 0 → 0 < x.m from fun h => by have := hv.m0; omega)
      have a0 : wr.cell? ⟨gq, oq + k * 10, none⟩ = some (.int .u32 x.k) := HP.out.all (qg 0 (by decide))
      have a1 : wr.cell? ⟨gq, oq + k * 10 + 1, none⟩ = some (.int .i32 x.r) := HP.out.all (qg 1 (by decide))
      have a2 : wr.cell? ⟨gq, oq + k * 10 + 2, none⟩ = some (.int .i32 x.ax) := HP.out.all (qg 2 (by decide))
      have a3 : wr.cell? ⟨gq, oq + k * 10 + 3, none⟩ = some (.int .i32 x.ay) := HP.out.all (qg 3 (by decide))
      have a4 : wr.cell? ⟨gq, oq + k * 10 + 4, none⟩ = some (.int .i32 x.m) := HP.out.all (qg 4 (by decide))
      have a5 : wr.cell? ⟨gq, oq + k * 10 + 5, none⟩ = some (.int .i32 x.o) := HP.out.all (qg 5 (by decide))
      have a6 : wr.cell? ⟨gq, oq + k * 10 + 6, none⟩ = some (.int .i32 x.px) := HP.out.all (qg 6 (by decide))
      have a7 : wr.cell? ⟨gq, oq + k * 10 + 7, none⟩ = some (.int .i32 x.py) := HP.out.all (qg 7 (by decide))
      have a8 : wr.cell? ⟨gq, oq + k * 10 + 8, none⟩ = some (.int .i32 x.vx) := HP.out.all (qg 8 (by decide))
      have a9 : wr.cell? ⟨gq, oq + k * 10 + 9, none⟩ = some (.int .i32 gy) := HP.out.all (qg 9 (by decide))
      have QX := Lib.hid qx
      have QG := Lib.hid qg
      have QM := Lib.hid qm
      have QS := Lib.hid qs
      have vq := fun w => body_neq x w
      have i0 : (0 : Int) ≤ (k : Int) := Int.natCast_nonneg _
      have i1 : (k : Int) < (na : Int) := by omega
      clear hb ht hm hok hsn hv hp hgy ey0 ey1 qx qs qg qm lb1 lb2 hmx hmy hmB EZ EX EY NX NY
      go_upto_region 15 with (first
        | ((with_reducible refine (CG.out _).mono ?_); rintro e w8 ⟨rfl, g8⟩
           have gc := kep_next HP.out g8
           clear a0 a1 a2 a3 a4 a5 a6 a7 a8 a9
           have b0 : w8.cell? ⟨gm, om + k * 10, none⟩ = some (.int .u32 x.k) := gc.all (QM.out 0 (by decide))
           have b1 : w8.cell? ⟨gm, om + k * 10 + 1, none⟩ = some (.int .i32 x.r) := gc.all (QM.out 1 (by decide))
           have b2 : w8.cell? ⟨gm, om + k * 10 + 2, none⟩ = some (.int .i32 x.ax) := gc.all (QM.out 2 (by decide))
           have b3 : w8.cell? ⟨gm, om + k * 10 + 3, none⟩ = some (.int .i32 x.ay) := gc.all (QM.out 3 (by decide))
           have b4 : w8.cell? ⟨gm, om + k * 10 + 4, none⟩ = some (.int .i32 x.m) := gc.all (QM.out 4 (by decide))
           have b5 : w8.cell? ⟨gm, om + k * 10 + 5, none⟩ = some (.int .i32 x.o) := gc.all (QM.out 5 (by decide))
           have b6 : w8.cell? ⟨gm, om + k * 10 + 6, none⟩ = some (.int .i32 mx) := gc.all (QM.out 6 (by decide))
           have b7 : w8.cell? ⟨gm, om + k * 10 + 7, none⟩ = some (.int .i32 my) := gc.all (QM.out 7 (by decide))
           have b8 : w8.cell? ⟨gm, om + k * 10 + 8, none⟩ = some (.int .i32 x.vx) := gc.all (QM.out 8 (by decide))
           have b9 : w8.cell? ⟨gm, om + k * 10 + 9, none⟩ = some (.int .i32 x.vy) := gc.all (QM.out 9 (by decide)))
        | ((with_reducible refine (CM.out _).mono ?_); rintro e w9 ⟨rfl, g9⟩
           replace gc := kep_next gc g9
           clear b0 b1 b2 b3 b4 b5 b6 b7 b8 b9
           have a0 : w9.cell? ⟨gq, oq + k * 10, none⟩ = some (.int .u32 x.k) := gc.all (QG.out 0 (by decide))
           have a1 : w9.cell? ⟨gq, oq + k * 10 + 1, none⟩ = some (.int .i32 x.r) := gc.all (QG.out 1 (by decide))
           have a2 : w9.cell? ⟨gq, oq + k * 10 + 2, none⟩ = some (.int .i32 x.ax) := gc.all (QG.out 2 (by decide))
           have a3 : w9.cell? ⟨gq, oq + k * 10 + 3, none⟩ = some (.int .i32 x.ay) := gc.all (QG.out 3 (by decide))
           have a4 : w9.cell? ⟨gq, oq + k * 10 + 4, none⟩ = some (.int .i32 x.m) := gc.all (QG.out 4 (by decide))
           have a5 : w9.cell? ⟨gq, oq + k * 10 + 5, none⟩ = some (.int .i32 x.o) := gc.all (QG.out 5 (by decide))
           have a6 : w9.cell? ⟨gq, oq + k * 10 + 6, none⟩ = some (.int .i32 x.px) := gc.all (QG.out 6 (by decide))
           have a7 : w9.cell? ⟨gq, oq + k * 10 + 7, none⟩ = some (.int .i32 x.py) := gc.all (QG.out 7 (by decide))
           have a8 : w9.cell? ⟨gq, oq + k * 10 + 8, none⟩ = some (.int .i32 x.vx) := gc.all (QG.out 8 (by decide))
           have a9 : w9.cell? ⟨gq, oq + k * 10 + 9, none⟩ = some (.int .i32 gy) := gc.all (QG.out 9 (by decide))
           have b0 : w9.cell? ⟨gm, om + k * 10, none⟩ = some (.int .u32 x.k) := gc.all (QM.out 0 (by decide))
           have b1 : w9.cell? ⟨gm, om + k * 10 + 1, none⟩ = some (.int .i32 x.r) := gc.all (QM.out 1 (by decide))
           have b2 : w9.cell? ⟨gm, om + k * 10 + 2, none⟩ = some (.int .i32 x.ax) := gc.all (QM.out 2 (by decide))
           have b3 : w9.cell? ⟨gm, om + k * 10 + 3, none⟩ = some (.int .i32 x.ay) := gc.all (QM.out 3 (by decide))
           have b4 : w9.cell? ⟨gm, om + k * 10 + 4, none⟩ = some (.int .i32 x.m) := gc.all (QM.out 4 (by decide))
           have b5 : w9.cell? ⟨gm, om + k * 10 + 5, none⟩ = some (.int .i32 x.o) := gc.all (QM.out 5 (by decide))
           have b6 : w9.cell? ⟨gm, om + k * 10 + 6, none⟩ = some (.int .i32 mx) := gc.all (QM.out 6 (by decide))
           have b7 : w9.cell? ⟨gm, om + k * 10 + 7, none⟩ = some (.int .i32 my) := gc.all (QM.out 7 (by decide))
           have b8 : w9.cell? ⟨gm, om + k * 10 + 8, none⟩ = some (.int .i32 x.vx) := gc.all (QM.out 8 (by decide))
           have b9 : w9.cell? ⟨gm, om + k * 10 + 9, none⟩ = some (.int .i32 x.vy) := gc.all (QM.out 9 (by decide))))
      generalize hW : World.alloc w9 _ = W2
      have zx : ZC W2 w9.heap.size [.int .u32 x.k, .int .i32 x.r, .int .i32 x.ax, .int .i32 x.ay, .int .i32 x.m, .int .i32 x.o, .int .i32 x.px, .int .i32 x.py, .int .i32 x.vx, .int .i32 gy] := by rw [← hW]; exact zc_new' _ _ _ rfl
      have k2 : Kep w9.heap.size w9 W2 := by rw [← hW]; exact kep_more (Kep.refl _ _) _
      have hz2 : W2.heap.size = w9.heap.size + 1 := by rw [← hW]; simp
      clear hW a0 a1 a2 a3 a4 a5 a6 a7 a8 a9
      replace b0 := k2.all b0
      replace b1 := k2.all b1
      replace b2 := k2.all b2
      replace b3 := k2.all b3
      replace b4 := k2.all b4
      replace b5 := k2.all b5
      replace b6 := k2.all b6
      replace b7 := k2.all b7
      replace b8 := k2.all b8
      replace b9 := k2.all b9
      have HZ2 := Lib.hid hz2
      clear hz2
      go_upto_region 16 with fail
      generalize hW : World.alloc W2 _ = W3
      replace zx : ZC W3 w9.heap.size [.int .u32 x.k, .int .i32 x.r, .int .i32 x.ax, .int .i32 x.ay, .int .i32 x.m, .int .i32 x.o, .int .i32 x.px, .int .i32 x.py, .int .i32 x.vx, .int .i32 gy] := by rw [← hW]; exact zx.more _
      have zy : ZC W3 W2.heap.size [.int .u32 x.k, .int .i32 x.r, .int .i32 x.ax, .int .i32 x.ay, .int .i32 x.m, .int .i32 x.o, .int .i32 mx, .int .i32 my, .int .i32 x.vx, .int .i32 x.vy] := by rw [← hW]; exact zc_new' _ _ _ rfl
      have k3 : Kep w9.heap.size w9 W3 := by rw [← hW]; exact kep_more k2 _
      clear hW k2 b0 b1 b2 b3 b4 b5 b6 b7 b8 b9
      rw [HZ2.out] at zy ⊢
      have g3 := kep_next gc k3
      have c6 : W3.cell? ⟨gl, off + k * 10 + 6, none⟩ = some (.int .i32 x.px) := g3.all (QX.out 6 (by decide))
      have c7 : W3.cell? ⟨gl, off + k * 10 + 7, none⟩ = some (.int .i32 x.py) := g3.all (QX.out 7 (by decide))
      have c9 : W3.cell? ⟨gl, off + k * 10 + 9, none⟩ = some (.int .i32 x.vy) := g3.all (QX.out 9 (by decide))
      have u9 := zx.i (i := 9) rfl
      have y9 := zx.frz 9
      have u6 := zy.i (i := 6) rfl
      have u7 := zy.i (i := 7) rfl
      have y6 := zy.frz 6
      have y7 := zy.frz 7
      have zl1 := zx.lt
      have zl2 := zy.lt
      have hgl9 : gl < w9.heap.size := World.block_lt_of_cell? _ _ (gc.all (QX.out 0 (by decide)))
      go_upto_region 18 with fail
      generalize hW : World.setCell _ _ _ = W5
      have zx5 : ZC W5 w9.heap.size (vals x) := by rw [← hW]; exact ((zx.put (.int .i32 x.vy) (i := 9) (by simp)).far1 (by omega) _).far1 (by omega) _
      have zy5 : ZC W5 (w9.heap.size + 1) (vals x) := by rw [← hW]; exact ((zy.far1 (by omega) _).put (.int .i32 x.px) (i := 6) (by simp)).put (.int .i32 x.py) (i := 7) (by simp)
      have k5 : Kep w9.heap.size w9 W5 := by rw [← hW]; exact ((k3.setCell (Nat.le_refl _) _).setCell (by show w9.heap.size ≤ w9.heap.size + 1; omega) _).setCell (by show w9.heap.size ≤ w9.heap.size + 1; omega) _
      clear hW c6 c7 c9 u9 y9 u6 u7 y6 y7 zl1 zl2 zx zy k3 g3 hgl9
      have gw := kep_next gc k5
      have HGE := Lib.hid gw
      have c0 : W5.cell? ⟨gl, off + k * 10, none⟩ = some (.int .u32 x.k) := gw.all (QX.out 0 (by decide))
      have c1 : W5.cell? ⟨gl, off + k * 10 + 1, none⟩ = some (.int .i32 x.r) := gw.all (QX.out 1 (by decide))
      have c2 : W5.cell? ⟨gl, off + k * 10 + 2, none⟩ = some (.int .i32 x.ax) := gw.all (QX.out 2 (by decide))
      have c3 : W5.cell? ⟨gl, off + k * 10 + 3, none⟩ = some (.int .i32 x.ay) := gw.all (QX.out 3 (by decide))
      have c4 : W5.cell? ⟨gl, off + k * 10 + 4, none⟩ = some (.int .i32 x.m) := gw.all (QX.out 4 (by decide))
      have c5 : W5.cell? ⟨gl, off + k * 10 + 5, none⟩ = some (.int .i32 x.o) := gw.all (QX.out 5 (by decide))
      have c6 : W5.cell? ⟨gl, off + k * 10 + 6, none⟩ = some (.int .i32 x.px) := gw.all (QX.out 6 (by decide))
      have c7 : W5.cell? ⟨gl, off + k * 10 + 7, none⟩ = some (.int .i32 x.py) := gw.all (QX.out 7 (by decide))
      have c8 : W5.cell? ⟨gl, off + k * 10 + 8, none⟩ = some (.int .i32 x.vx) := gw.all (QX.out 8 (by decide))
      have c9 : W5.cell? ⟨gl, off + k * 10 + 9, none⟩ = some (.int .i32 x.vy) := gw.all (QX.out 9 (by decide))
      have a0 : W5.cell? ⟨gq, oq + k * 10, none⟩ = some (.int .u32 x.k) := gw.all (QG.out 0 (by decide))
      have a1 : W5.cell? ⟨gq, oq + k * 10 + 1, none⟩ = some (.int .i32 x.r) := gw.all (QG.out 1 (by decide))
      have a2 : W5.cell? ⟨gq, oq + k * 10 + 2, none⟩ = some (.int .i32 x.ax) := gw.all (QG.out 2 (by decide))
      have a3 : W5.cell? ⟨gq, oq + k * 10 + 3, none⟩ = some (.int .i32 x.ay) := gw.all (QG.out 3 (by decide))
      have a4 : W5.cell? ⟨gq, oq + k * 10 + 4, none⟩ = some (.int .i32 x.m) := gw.all (QG.out 4 (by decide))
      have a5 : W5.cell? ⟨gq, oq + k * 10 + 5, none⟩ = some (.int .i32 x.o) := gw.all (QG.out 5 (by decide))
      have a6 : W5.cell? ⟨gq, oq + k * 10 + 6, none⟩ = some (.int .i32 x.px) := gw.all (QG.out 6 (by decide))
      have a7 : W5.cell? ⟨gq, oq + k * 10 + 7, none⟩ = some (.int .i32 x.py) := gw.all (QG.out 7 (by decide))
      have a8 : W5.cell? ⟨gq, oq + k * 10 + 8, none⟩ = some (.int .i32 x.vx) := gw.all (QG.out 8 (by decide))
      have a9 : W5.cell? ⟨gq, oq + k * 10 + 9, none⟩ = some (.int .i32 gy) := gw.all (QG.out 9 (by decide))
      have b6 : W5.cell? ⟨gm, om + k * 10 + 6, none⟩ = some (.int .i32 mx) := gw.all (QM.out 6 (by decide))
      have b7 : W5.cell? ⟨gm, om + k * 10 + 7, none⟩ = some (.int .i32 my) := gw.all (QM.out 7 (by decide))
      have p0 := zx5.i (i := 0) (u := .int .u32 x.k) rfl
      have q0 := zy5.i (i := 0) (u := .int .u32 x.k) rfl
      have p1 := zx5.i (i := 1) (u := .int .i32 x.r) rfl
      have q1 := zy5.i (i := 1) (u := .int .i32 x.r) rfl
      have p2 := zx5.i (i := 2) (u := .int .i32 x.ax) rfl
      have q2 := zy5.i (i := 2) (u := .int .i32 x.ax) rfl
      have p3 := zx5.i (i := 3) (u := .int .i32 x.ay) rfl
      have q3 := zy5.i (i := 3) (u := .int .i32 x.ay) rfl
      have p4 := zx5.i (i := 4) (u := .int .i32 x.m) rfl
      have q4 := zy5.i (i := 4) (u := .int .i32 x.m) rfl
      have p5 := zx5.i (i := 5) (u := .int .i32 x.o) rfl
      have q5 := zy5.i (i := 5) (u := .int .i32 x.o) rfl
      have p6 := zx5.i (i := 6) (u := .int .i32 x.px) rfl
      have q6 := zy5.i (i := 6) (u := .int .i32 x.px) rfl
      have p7 := zx5.i (i := 7) (u := .int .i32 x.py) rfl
      have q7 := zy5.i (i := 7) (u := .int .i32 x.py) rfl
      have p8 := zx5.i (i := 8) (u := .int .i32 x.vx) rfl
      have q8 := zy5.i (i := 8) (u := .int .i32 x.vx) rfl
      have p9 := zx5.i (i := 9) (u := .int .i32 x.vy) rfl
      have q9 := zy5.i (i := 9) (u := .int .i32 x.vy) rfl
      have t0 : W5.cell? ⟨gs, os + k * 2, none⟩ = some (.int .i64 s.1) := gw.all (QS.out 0 _ rfl)
      have t1 : W5.cell? ⟨gs, os + k * 2 + 1, none⟩ = some (.int .i64 s.2) := gw.all (QS.out 1 _ rfl)
      clear zx5 zy5 k5 gc gw
      go_cut [131] (fun s131 wx => s131 = .bool false ∧ ∃ j, wx = W5.drewN j)
      case first => as_aux_lemma =>
        by_cases hm : x.m = 0
        · have m0 : (x.m == 0) = true := beq_iff_eq.2 hm
          obtain rfl : gy = x.vy := M0.out hm
          clear hm
          go_quiet (fail)
          go_wp2_with fail
          go_meet
          exact ⟨rfl, _, rfl⟩
        · have m0 : (x.m == 0) = false := beq_eq_false_iff_ne.2 hm
          clear hm
          go_quiet (fail)
          go_wp2_with fail
          go_meet
          exact ⟨rfl, _, rfl⟩
      case rest =>
        obtain ⟨rfl, j5, rfl⟩ := hcut
        clear p0 p1 p2 p3 p4 p5 p6 p7 p8 p9 q0 q1 q2 q3 q4 q5 q6 q7 q8 q9
        go_upto_region 20 with fail
        go_cut [157] (fun s157 wx => s157 = .bool false ∧ ∃ j, wx = W5.drewN j)
        case first => as_aux_lemma =>
          cases zg with
          | true =>
            go_quiet (fail)
            go_wp2_with fail
            go_meet
            exact ⟨rfl, _, drewN_two _ _ _⟩
          | false =>
            by_cases hm : 0 < x.m
            · have m0 : decide (0 < x.m) = true := decide_eq_true hm
              obtain rfl : gy = x.vy - 1024 := EG.out rfl hm
              have n0 : (x.vy - 1024 != x.vy - 1024) = false := by simp
              obtain ⟨f11, f12⟩ := HW.out
              clear hm
              go_quiet (fail)
              go_wp2_with fail
              go_meet
              exact ⟨rfl, _, rfl⟩
            · have m0 : decide (0 < x.m) = false := decide_eq_false hm
              clear hm
              go_quiet (fail)
              go_wp2_with fail
              go_meet
              exact ⟨rfl, _, rfl⟩
        case rest =>
          obtain ⟨rfl, j6, rfl⟩ := hcut
          clear a0 a1 a2 a3 a4 a5 a6 a7 a8 a9 c0 c1 c2 c3 c4 c5
          go_upto_region 22 with fail
          obtain ⟨⟨f1, f3, f9⟩, ⟨f5, v5⟩, f7, v7⟩ := HNX.out
          obtain ⟨⟨f2, f4, f10⟩, ⟨f6, v6⟩, f8, v8⟩ := HNY.out
          go_quiet (fail)
          go_upto_region 23 with fail
          go_quiet (fail)
          go_upto_region 24 with fail
          cases zm with
          | true =>
            go_wp2_with fail
            clear f1 f2 f3 f4 f5 f6 f7 f8 f9 f10 v5 v6 v7 v8
            go_roundw
            case rel => exact ⟨k + 1, by omega, by go_num, Lib.hid (by repeat first | exact HP.out.trans HGE.out | exact HGE.out | refine Kep.drew ?_ | refine kep_drewN ?_ _)⟩
            case measure => simp [RowKit.intOf]; omega
          | false =>
            obtain ⟨e1, e2, r1, r2, r3, r4⟩ := HX.out rfl
            obtain ⟨e3, e4, r5, r6, r7, r8⟩ := HY.out rfl
            go_wp2_with fail
            clear f1 f2 f3 f4 f5 f6 f7 f8 f9 f10 v5 v6 v7 v8 r1 r2 r3 r4 r5 r6 r7 r8
            go_roundw
            case rel => exact ⟨k + 1, by omega, by go_num, Lib.hid (by repeat first | exact HP.out.trans HGE.out | exact HGE.out | refine Kep.drew ?_ | refine kep_drewN ?_ _)⟩
            case measure => simp [RowKit.intOf]; omega
    · obtain rfl : k = na := by omega
      go_wp2_with fail
      go_ret
      exact ⟨rfl, kep_next G0.out HP.out⟩
/-- The law IntegrateLimits. -/
theorem yll_law (O : YOps) (AW : YAwake)  (L : List Bd) (v : Value) (w : World) (hq : Lst w v L) (S : List Sh) (sv : Value) (hs : Sq shv 2 w sv S) (HF : ∀ x ∈ L, Fits x) : Calls Try.prog 4 #[v, sv] w fun e w' => e = .returned (.bool true) ∧ Kep w.heap.size w w' := by
  cases hvw : viwB L
  · exact yll_bad (Lib.hid AW)  L v w hq S sv hs hvw
  · exact yll_ok O (Lib.hid AW)  L v w hq S sv hs (Lib.hid HF) hvw
end Go.Proofs.Ytlabeelbbkbkaaa
