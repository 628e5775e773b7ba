/-
  Package step: the law StepSplits.
-/
import Derived.Test.YtaknmlohnifcdaaGreatDoorJ19CtsMath
import Derived.Test.YtaknmlohnifcdaaGreatDoorCtsRef
import Derived.Test.YtaknmlohnifcdaaGreatDoorJ04PointRef
import Derived.Test.YtaknmlohnifcdaaGreatDoorJ02Seq
import Derived.Test.YtaknmlohnifcdaaGreatDoorJ01Bodies
import Derived.Test.YtaknmlohnifcdaaGreatDoorJ00Bits
import Derived.Test.YtaknmlohnifcdaaGreatDoorJ18ViewMath
import Derived.Test.YtaknmlohnifcdaaGreatDoorJ06StorePut
import Derived.Deep.DeepCutAuto
import Derived.Deep.QuietTactic
import Derived.BigQuiet
import Derived.Test.YtaknmlohnifcdaaGreatDoorFrO
import Derived.OwnWalk
import Derived.Test.YtaknmlohnifcdaaGreatDoorIntCon
namespace Go.Proofs.YtaknmlohnifcdaaGreatDoor
open Go.RowKit Go.Lib

theorem sum_c {a b c : Nat} (h : c = a + b) (hc : (c : Int) ≤ 5000) : wrap64 ((a : Int) + (b : Int)) = (c : Int) ∧ IntKind.i64.wrap ((a : Int) + (b : Int)) = (c : Int) := by
  constructor
  · unfold wrap64; omega
  · rw [IntKind.wrap_i64]; omega
set_option maxRecDepth 100000 in
set_option maxHeartbeats 2000000 in
theorem tsl_bad (AW : Hid TAwake) (t u : Int) (L : List Bd) (v : Value) (w : World) (F0 : Fac w) (hq : Lst w v L) (hvw : viwB L = false) : Calls Tryz.prog 7 #[v, .int .u8 t, .int .u8 u] w fun e w' => e = .returned (.bool true) ∧ Kep w.heap.size w w' := by
  obtain ⟨base, cap, rfl⟩ := hq.shape
  have HQ := Lib.hid hq
  clear hq
  have VW : Hid (∀ v w, Lst w v L → Calls Tryz.prog 8 #[v] w fun e w' => ∃ v', e = .returned (.tuple #[v', .bool false]) ∧ Lst w' v' (if L.length ≤ 40 then sortL L else []) ∧ Kep w.heap.size w w') := Lib.hid (fun v w h => (rvw L v w h).mono fun e w' ⟨v', h1, h2, h3⟩ => ⟨v', by rw [h1, hvw], h2.1, h3⟩)
  go_enter Tryz.func7, Tryz.ntmps7
  go_wp2_with (first
    | ((with_reducible refine (VW.out _ _ (HQ.out.kep (Kep.refl _ _))).mono ?_); rintro e w1 ⟨v1, rfl, l1, g1⟩
       have gg := kep_next (Kep.refl _ _) g1)
    | ((with_reducible refine (AW.out _ (F0.kep (by (repeat (first | with_reducible assumption | refine kep_more ?_ _ | refine kep_drew ?_ | exact Kep.refl _ _))))).mono ?_); rintro e w2 ⟨rfl, g2⟩
       replace gg := kep_next gg g2
       replace l1 := l1.kep g2))
  go_ret
  exact ⟨rfl, gg⟩
set_option maxRecDepth 100000 in
set_option maxHeartbeats 8000000 in
theorem tsl_ok (O : TOps) (AW : Hid TAwake) (t u : Int) (ht : 0 ≤ t ∧ t < 256) (hu : 0 ≤ u ∧ u < 256) (L : List Bd) (v : Value) (w : World) (F0 : Fac w) (hq : Lst w v L) (HF : Hid (∀ x ∈ L, Fits x)) (hvw : viwB L = true) : Calls Tryz.prog 7 #[v, .int .u8 t, .int .u8 u] w fun e w' => e = .returned (.bool true) ∧ Kep w.heap.size w w' := by
  obtain ⟨base, cap, rfl⟩ := hq.shape
  have HQ := Lib.hid hq
  clear hq
  have VW : Hid (∀ v w, Lst w v L → Calls Tryz.prog 8 #[v] w fun e w' => ∃ v', e = .returned (.tuple #[v', .bool true]) ∧ Lst w' v' (sortL L) ∧ Kep w.heap.size w w') := Lib.hid (fun v w h => (rvw L v w h).mono fun e w' ⟨v', h1, h2, h3⟩ => ⟨v', by rw [h1]; rw [hvw], by have := h2.1; rw [if_pos (vw_of hvw HF.out).1] at this; exact this, h3⟩)
  have HVW := Lib.hid (vw_of hvw HF.out).2.2
  obtain ⟨A, hA⟩ : ∃ A, A = sortL L := ⟨_, rfl⟩
  rw [← hA] at VW HVW
  clear hA
  have hal := HVW.out.len
  obtain ⟨p, hp⟩ : ∃ p : Nat, (p : Int) = t % 4 := ⟨(t % 4).toNat, by omega⟩
  obtain ⟨q, hq2⟩ : ∃ q : Nat, (q : Int) = u % 4 := ⟨(u % 4).toNat, by omega⟩
  have hp4 : p < 4 := by omega
  have hq4 : q < 4 := by omega
  have hp' := hp.symm
  have hq' := hq2.symm
  have HP0 := Lib.hid hp'
  have HQ0 := Lib.hid hq'
  have SA := Lib.hid (fun v w f h => O.sts v A p w f h HVW.out (by omega))
  have SB := Lib.hid (fun v w f h => O.sts v (stpN A p) q w f h (vw_N HVW.out p) (by omega))
  have SC := Lib.hid (fun v w f h => O.sts v A ((p : Int) + (q : Int)) w f h HVW.out (by omega))
  have SD := Lib.hid (fun v w f h => O.sts v A (-1) w f h HVW.out (by omega))
  simp only [Int.toNat_natCast] at SA SB
  rw [show ((p : Int) + (q : Int)).toNat = p + q by omega, stpN_add, ctN_add, clN_add] at SC
  rw [show (-1 : Int).toNat = 0 from rfl, show stpN A 0 = A from rfl, show ctN A 0 = 0 from rfl, show clN A 0 = false from rfl] at SD
  have FR := Lib.hid (fun x (hx : x ∈ A) => O.fre (HVW.out.ok x hx) (HVW.out.key x hx))
  have CK := Lib.hid (fun x (hx : x ∈ A) => yck (frB x))
  have CZ : Hid (∀ x ∈ A, chk (frB x).r (frB x).ax (frB x).ay (frB x).m (frB x).o (frB x).px (frB x).py (frB x).vx (frB x).vy = 0) := Lib.hid fun x hx => ok_mv (0, 0) (ok_grv (HVW.out.ok x hx))
  have S1 := Lib.hid (fun va vb w h1 h2 => same_any va vb (stpN (stpN A p) q) w h1 h2 (by have := (vw_N (vw_N HVW.out p) q).len; omega))
  have S2 := Lib.hid (fun va vb w h1 h2 => same_any va vb A w h1 h2 (by omega))
  obtain ⟨c1, hc1⟩ : ∃ c, c = ctN A p := ⟨_, rfl⟩
  obtain ⟨c2, hc2⟩ : ∃ c, c = ctN (stpN A p) q := ⟨_, rfl⟩
  obtain ⟨c3, hc3⟩ : ∃ c, c = c1 + c2 := ⟨_, rfl⟩
  obtain ⟨z1, hz1⟩ : ∃ z, z = clN A p := ⟨_, rfl⟩
  obtain ⟨z2, hz2⟩ : ∃ z, z = clN (stpN A p) q := ⟨_, rfl⟩
  rw [← hc1, ← hz1] at SA
  rw [← hc2, ← hz2] at SB
  rw [← hc1, ← hc2, ← hc3, ← hz1, ← hz2] at SC
  rw [show ((0 : Nat) : Int) = 0 from rfl] at SD
  have HC3 := Lib.hid hc3
  generalize stpN A p = B at *
  generalize stpN B q = E at *
  clear hp hq2 hc1 hc2 hc3 hz1 hz2
  have e2 : wrap64 ((p : Int) + (q : Int)) = (p : Int) + (q : Int) := by unfold wrap64; omega
  have e3 : IntKind.i64.wrap ((p : Int) + (q : Int)) = (p : Int) + (q : Int) := by rw [IntKind.wrap_i64]; omega
  have e4 : Int.tmod t 4 = (p : Int) := by rw [Int.tmod_eq_emod_of_nonneg ht.1]; exact hp'
  have e5 : Int.tmod u 4 = (q : Int) := by rw [Int.tmod_eq_emod_of_nonneg hu.1]; exact hq'
  go_enter Tryz.func7, Tryz.ntmps7
  go_upto_region 10 with (first
    | ((with_reducible refine (VW.out _ _ (HQ.out.kep (Kep.refl _ _))).mono ?_); rintro e w1 ⟨v1, rfl, l1, g1⟩
       have gg := kep_next (Kep.refl _ _) g1)
    | ((with_reducible refine (AW.out _ (F0.kep (by (repeat (first | with_reducible assumption | refine kep_more ?_ _ | refine kep_drew ?_ | exact Kep.refl _ _))))).mono ?_); rintro e w2 ⟨rfl, g2⟩
       replace gg := kep_next gg g2
       replace l1 := l1.kep g2)
    | ((with_reducible refine (SA.out _ _ (F0.kep gg) l1).mono ?_); rintro e w3 ⟨v3, t1, rfl, ⟨l3, hx, hy⟩, g3⟩
       replace l1 := l1.kep g3
       replace gg := kep_next gg g3
       clear hx hy)
    | ((with_reducible refine (SB.out _ _ (F0.kep (kep_more gg _)) (l3.kep (kep_more (Kep.refl _ _) _))).mono ?_); rintro e w4 ⟨v4, t2, rfl, ⟨l4, hx, hy⟩, g4⟩
       have gk := kep_next (kep_more (Kep.refl _ _) _) g4
       have Zs : ZA w4 w3.heap.size [.int .i64 t1, .int .i64 (c1 : Int), .bool z1] := zK g4
       replace l1 := l1.kep gk
       replace gg := kep_next gg gk
       clear gk
       clear hx hy l3)
    | ((with_reducible refine (SC.out _ _ (F0.kep (kep_more gg _)) (l1.kep (kep_more (Kep.refl _ _) _))).mono ?_); rintro e w5 ⟨v5, t3, rfl, ⟨l5, hx, hy⟩, g5⟩
       have gk := kep_next (kep_more (Kep.refl _ _) _) g5
       have Zt : ZA w5 w4.heap.size [.int .i64 t2, .int .i64 (c2 : Int), .bool z2] := zK g5
       replace l1 := l1.kep gk
       replace l4 := l4.kep gk
       replace Zs := za_kep Zs gk
       replace gg := kep_next gg gk
       clear gk
       have HT3 := Lib.hid hx
       have HT4 : Hid ((c3 : Int) ≤ 5000) := Lib.hid (by omega)
       clear hx hy)
    | ((with_reducible refine (SD.out _ _ (F0.kep (kep_more gg _)) (l1.kep (kep_more (Kep.refl _ _) _))).mono ?_); rintro e w6 ⟨v6, t4, rfl, ⟨l6, hx, hy⟩, g6⟩
       have gk := kep_next (kep_more (Kep.refl _ _) _) g6
       have Zu : ZA w6 w5.heap.size [.int .i64 t3, .int .i64 (c3 : Int), .bool (z1 || z2)] := zK g6
       replace l1 := l1.kep gk
       replace l4 := l4.kep gk
       replace l5 := l5.kep gk
       replace Zs := za_kep Zs gk
       replace Zt := za_kep Zt gk
       replace gg := kep_next gg gk
       clear gk
       have ht4 : t4 = 0 := by omega
       subst ht4
       clear hx hy))
  generalize hW : World.alloc w6 _ = W7
  have g7 : Kep w6.heap.size w6 W7 := by rw [← hW]; exact kep_more (Kep.refl _ _) _
  have Zz : ZA W7 w6.heap.size [.int .i64 0, .int .i64 0, .bool false] := by rw [← hW]; exact za_new _ _ _ rfl
  clear hW
  replace Zs := za_kep Zs g7
  replace Zt := za_kep Zt g7
  replace Zu := za_kep Zu g7
  replace l1 := l1.kep g7
  replace l4 := l4.kep g7
  replace l5 := l5.kep g7
  replace l6 := l6.kep g7
  replace gg := kep_next gg g7
  have HZS := Lib.hid Zs
  have HZT := Lib.hid Zt
  have HZU := Lib.hid Zu
  have HZZ := Lib.hid Zz
  have HL4 := Lib.hid l4
  have HL5 := Lib.hid l5
  have HL6 := Lib.hid l6
  have HL := Lib.hid l1
  have G0 := Lib.hid gg
  obtain ⟨bl, cl, rfl⟩ := l1.shape
  have HLA := Lib.hid (fun (k : Nat) (y : Bd) (hy : A[k]? = some y) => HL.out.at_ hy)
  clear Zs Zt Zu Zz l4 l5 l6 l1 gg g7 e2 e3 e4 e5
  generalize hna : A.length = na at *
  have HNA := Lib.hid hna
  clear hna
  go_wp2_with fail
  go_loopw [19] (fun i wr => ∃ k : Nat, k ≤ na ∧ i = .int .i64 k ∧ Hid (Kep W7.heap.size W7 wr)) (fun i _ => na - (RowKit.intOf i).toNat)
  case atStart => exact ⟨0, by omega, rfl, Lib.hid (Kep.refl _ _)⟩
  case round =>
    obtain ⟨k, hk, rfl, HK⟩ := hrel
    by_cases hlt : k < na
    · have hb : A[k]? = some (A[k]'(by rw [HNA.out]; exact hlt)) := List.getElem?_eq_getElem _
      generalize A[k]'(by rw [HNA.out]; exact hlt) = x at hb
      have hm := List.mem_of_getElem? hb
      obtain ⟨gl, off, rfl, qx⟩ := HLA.out k x hb
      have F1 := Lib.hid (FR.out x hm)
      have K1 := Lib.hid (CK.out x hm)
      rw [CZ.out x hm] at K1
      have gg := HK.out
      have Zx : ZE wr gl (off + k * 10) [.int .u32 x.k, .int .i32 x.r, .int .i32 x.ax, .int .i32 x.ay, .int .i32 x.m, .int .i32 x.o, .int .i32 x.px, .int .i32 x.py, .int .i32 x.vx, .int .i32 x.vy] := ze_kep (ze_of qx) gg
      have i0 : (0 : Int) ≤ (k : Int) := by omega
      have i1 : (k : Int) < (na : Int) := by omega
      clear hb qx
      go_wp2_with (first
        | ((with_reducible refine (F1.out _).mono ?_); rintro e w8 ⟨rfl, g8⟩; replace gg := gg.trans (g8.mono gg.size))
        | ((with_reducible refine (K1.out _).mono ?_); rintro e w9 ⟨rfl, g9⟩; replace gg := gg.trans (g9.mono gg.size)))
      go_roundw
      case rel => exact ⟨k + 1, by omega, by go_num, Lib.hid gg⟩
      case measure => simp [RowKit.intOf]; omega
    · have i2 : ¬ (k : Int) < (na : Int) := by omega
      obtain rfl : k = na := by omega
      have gk := HK.out
      have gg := kep_next G0.out gk
      have Zs := za_kep HZS.out gk
      have Zt := za_kep HZT.out gk
      have Zu := za_kep HZU.out gk
      have Zz := za_kep HZZ.out gk
      have l4 := HL4.out.kep gk
      have l5 := HL5.out.kep gk
      have l6 := HL6.out.kep gk
      have l1 := HL.out.kep gk
      have h3 := HT3.out
      have h4 := HT4.out
      have hc3 := HC3.out
      obtain ⟨e2, e3⟩ := sum_c hc3 h4
      clear HK gk hc3 h4
      cases z1 <;> cases z2 <;>
      · go_wp2_with (first
          | ((with_reducible refine (S1.out _ _ _ l4 l5).mono ?_); rintro e w8 ⟨rfl, g8⟩; replace gg := kep_next gg g8; replace Zs := za_kep Zs g8; replace Zt := za_kep Zt g8; replace Zu := za_kep Zu g8; replace Zz := za_kep Zz g8; replace l6 := l6.kep g8; replace l1 := l1.kep g8)
          | ((with_reducible refine (S2.out _ _ _ l6 l1).mono ?_); rintro e w9 ⟨rfl, g9⟩; replace gg := kep_next gg g9; replace Zz := za_kep Zz g9))
        go_ret
        exact ⟨rfl, gg⟩
/-- The law StepSplits. -/
theorem tsl_law (O : TOps) (AW : TAwake) (t u : Int) (ht : 0 ≤ t ∧ t < 256) (hu : 0 ≤ u ∧ u < 256) (L : List Bd) (v : Value) (w : World) (F0 : Fac w) (hq : Lst w v L) (HF : ∀ x ∈ L, Fits x) : Calls Tryz.prog 7 #[v, .int .u8 t, .int .u8 u] w fun e w' => e = .returned (.bool true) ∧ Kep w.heap.size w w' := by
  cases hvw : viwB L
  · exact tsl_bad (Lib.hid AW) t u L v w F0 hq hvw
  · exact tsl_ok O (Lib.hid AW) t u ht hu L v w F0 hq (Lib.hid HF) hvw
end Go.Proofs.YtaknmlohnifcdaaGreatDoor
