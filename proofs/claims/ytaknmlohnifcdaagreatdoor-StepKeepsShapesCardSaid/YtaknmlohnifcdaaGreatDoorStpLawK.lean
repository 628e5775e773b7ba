/-
  Package step: the law StepKeepsShapes.
-/
import Derived.Test.YtaknmlohnifcdaaGreatDoorJ19CtsMath
import Derived.Test.YtaknmlohnifcdaaGreatDoorStpMath2
import Derived.Test.YtaknmlohnifcdaaGreatDoorJ06StorePut
import Derived.Test.YtaknmlohnifcdaaGreatDoorJ18ViewMath
import Derived.Test.YtaknmlohnifcdaaGreatDoorJ02Seq
import Derived.Deep.DeepCutAuto
import Derived.Deep.QuietTactic
import Derived.BigQuiet
namespace Go.Proofs.YtaknmlohnifcdaaGreatDoor
open Go.RowKit Go.Lib

theorem vchk_vw {L : List Bd} (h : Vw L) : vchkE L = 0 := by
  have e : eachE L = 0 := eachE_zero.2 ⟨by have := h.len; omega, h.ok⟩
  unfold vchkE
  rw [e, if_neg (fun q => q rfl), if_pos h.asc]
set_option maxRecDepth 100000 in
set_option maxHeartbeats 2000000 in
theorem tkl_bad (AW : Hid TAwake) (t : Int) (L : List Bd) (v : Value) (w : World) (F0 : Fac w) (hq : Lst w v L) (hvw : viwB L = false) : Calls Tryz.prog 4 #[v, .int .u8 t] w fun e w' => e = .returned (.bool true) ∧ Kep w.heap.size w w' := by
  obtain ⟨base, cap, rfl⟩ := hq.shape
  have HQ := Lib.hid hq
  clear hq
  have VW : Hid (∀ v w, Lst w v L → Calls Tryz.prog 8 #[v] w fun e w' => ∃ v', e = .returned (.tuple #[v', .bool false]) ∧ Lst w' v' (if L.length ≤ 40 then sortL L else []) ∧ Kep w.heap.size w w') := Lib.hid (fun v w h => (rvw L v w h).mono fun e w' ⟨v', h1, h2, h3⟩ => ⟨v', by rw [h1, hvw], h2.1, h3⟩)
  go_enter Tryz.func4, Tryz.ntmps4
  go_wp2_with (first
    | ((with_reducible refine (VW.out _ _ (HQ.out.kep (Kep.refl _ _))).mono ?_); rintro e w1 ⟨v1, rfl, l1, g1⟩
       have gg := kep_next (Kep.refl _ _) g1)
    | ((with_reducible refine (AW.out _ (F0.kep (by (repeat (first | with_reducible assumption | refine kep_more ?_ _ | refine kep_drew ?_ | exact Kep.refl _ _))))).mono ?_); rintro e w2 ⟨rfl, g2⟩
       replace gg := kep_next gg g2
       replace l1 := l1.kep g2))
  go_ret
  exact ⟨rfl, gg⟩
set_option maxRecDepth 100000 in
set_option maxHeartbeats 8000000 in
theorem tkl_ok (O : TOps) (AW : Hid TAwake) (t : Int) (ht : 0 ≤ t ∧ t < 256) (L : List Bd) (v : Value) (w : World) (F0 : Fac w) (hq : Lst w v L) (HF : Hid (∀ x ∈ L, Fits x)) (hvw : viwB L = true) : Calls Tryz.prog 4 #[v, .int .u8 t] w fun e w' => e = .returned (.bool true) ∧ Kep w.heap.size w w' := by
  obtain ⟨base, cap, rfl⟩ := hq.shape
  have HQ := Lib.hid hq
  clear hq
  have VW : Hid (∀ v w, Lst w v L → Calls Tryz.prog 8 #[v] w fun e w' => ∃ v', e = .returned (.tuple #[v', .bool true]) ∧ Lst w' v' (sortL L) ∧ Kep w.heap.size w w') := Lib.hid (fun v w h => (rvw L v w h).mono fun e w' ⟨v', h1, h2, h3⟩ => ⟨v', by rw [h1]; rw [hvw], by have := h2.1; rw [if_pos (vw_of hvw HF.out).1] at this; exact this, h3⟩)
  have HVW := Lib.hid (vw_of hvw HF.out).2.2
  obtain ⟨A, hA⟩ : ∃ A, A = sortL L := ⟨_, rfl⟩
  rw [← hA] at VW HVW
  clear hA
  have hal := HVW.out.len
  obtain ⟨p, hp⟩ : ∃ p : Nat, t % 8 = (p : Int) := ⟨(t % 8).toNat, by omega⟩
  have hp8 : p < 8 := by omega
  have SA := Lib.hid (fun v w f h => O.sts v A p w f h HVW.out (by omega))
  simp only [Int.toNat_natCast] at SA
  have CK := Lib.hid (fun v w h => vcheck_any v (stpN A p) w h (by rw [stpN_len]; omega))
  rw [vchk_vw (vw_N HVW.out p)] at CK
  have HAT := Lib.hid (fun k x (hx : A[k]? = some x) => stpN_at HVW.out hx p)
  have hbl := stpN_len A p
  generalize stpN A p = B at *
  generalize ctN A p = c1 at *
  generalize clN A p = z1 at *
  generalize hna : A.length = na at *
  have HNA := Lib.hid hna
  have HNB := Lib.hid hbl
  clear hna hbl
  have e4 : Int.tmod t 8 = (p : Int) := by rw [Int.tmod_eq_emod_of_nonneg ht.1]; exact hp
  go_enter Tryz.func4, Tryz.ntmps4
  go_upto_region 7 with (first
    | ((with_reducible refine (VW.out _ _ (HQ.out.kep (Kep.refl _ _))).mono ?_); rintro e w1 ⟨v1, rfl, l1, g1⟩
       have gg := kep_next (Kep.refl _ _) g1
       obtain ⟨bl, cl, rfl⟩ := l1.shape
       rw [HNA.out] at l1 ⊢)
    | ((with_reducible refine (AW.out _ (F0.kep (by (repeat (first | with_reducible assumption | refine kep_more ?_ _ | refine kep_drew ?_ | exact Kep.refl _ _))))).mono ?_); rintro e w2 ⟨rfl, g2⟩
       replace gg := kep_next gg g2
       replace l1 := l1.kep g2)
    | ((with_reducible refine (SA.out _ _ (F0.kep gg) l1).mono ?_); rintro e w3 ⟨v3, t1, rfl, ⟨l3, -, -⟩, g3⟩; obtain ⟨b3, c3, rfl⟩ := l3.shape; rw [HNB.out] at l3 ⊢; replace l1 := l1.kep g3; replace gg := kep_next gg g3)
    | ((with_reducible refine (CK.out _ _ (l3.kep (kep_more (Kep.refl _ _) _))).mono ?_); rintro e w4 ⟨rfl, g4⟩; have gk := kep_next (kep_more (Kep.refl _ _) _) g4; replace l1 := l1.kep gk; replace l3 := l3.kep gk; replace gg := kep_next gg gk; clear gk))
  have HL := Lib.hid l1
  have HL3 := Lib.hid l3
  have G0 := Lib.hid gg
  have HLA := Lib.hid (fun (k : Nat) (y : Bd) (hy : A[k]? = some y) => HL.out.at_ hy)
  have HLB := Lib.hid (fun (k : Nat) (y : Bd) (hy : B[k]? = some y) => HL3.out.at_ hy)
  clear l1 l3 gg
  go_wp2_with fail
  go_loopw [9] (fun i wr => ∃ k : Nat, k ≤ na ∧ i = .int .i64 k ∧ Hid (Kep w4.heap.size w4 wr)) (fun i _ => na - (RowKit.intOf i).toNat)
  case atStart => exact ⟨0, by omega, rfl, Lib.hid (Kep.refl _ _)⟩
  case round =>
    obtain ⟨k, hk, rfl, HK⟩ := hrel
    by_cases hlt : k < na
    · have hb : A[k]? = some (A[k]'(by rw [HNA.out]; exact hlt)) := List.getElem?_eq_getElem _
      generalize A[k]'(by rw [HNA.out]; exact hlt) = x at hb
      obtain ⟨a, b, c, d, hy⟩ := HAT.out k x hb
      obtain ⟨gl, off, rfl, qx⟩ := HLA.out k x hb
      obtain ⟨gy, ofy, rfl, qy⟩ := HLB.out k _ hy
      have gg := HK.out
      have Zx : ZE wr gl (off + k * 10) [.int .u32 x.k, .int .i32 x.r, .int .i32 x.ax, .int .i32 x.ay, .int .i32 x.m, .int .i32 x.o, .int .i32 x.px, .int .i32 x.py, .int .i32 x.vx, .int .i32 x.vy] := ze_kep (ze_of qx) gg
      have Zy : ZE wr gy (ofy + k * 10) [.int .u32 x.k, .int .i32 x.r, .int .i32 x.ax, .int .i32 x.ay, .int .i32 x.m, .int .i32 x.o, .int .i32 a, .int .i32 b, .int .i32 c, .int .i32 d] := ze_kep (ze_of qy) gg
      have hgl : gl < wr.heap.size := World.block_lt_of_cell? _ _ Zx.1
      have hgy : gy < wr.heap.size := World.block_lt_of_cell? _ _ Zy.1
      have x6 : wr.cell? ⟨gl, off + k * 10 + 6, none⟩ = some (.int .i32 x.px) := Zx.2 6 (by simp)
      have x7 : wr.cell? ⟨gl, off + k * 10 + 7, none⟩ = some (.int .i32 x.py) := Zx.2 7 (by simp)
      have x8 : wr.cell? ⟨gl, off + k * 10 + 8, none⟩ = some (.int .i32 x.vx) := Zx.2 8 (by simp)
      have x9 : wr.cell? ⟨gl, off + k * 10 + 9, none⟩ = some (.int .i32 x.vy) := Zx.2 9 (by simp)
      have vq := fun w => body_neq x w
      have i0 : (0 : Int) ≤ (k : Int) := by omega
      have i1 : (k : Int) < (na : Int) := by omega
      clear hb hy qx qy
      go_upto_region 13 with fail
      generalize hW : World.alloc wr _ = W8
      have Zb : ZA W8 wr.heap.size [.int .u32 x.k, .int .i32 x.r, .int .i32 x.ax, .int .i32 x.ay, .int .i32 x.m, .int .i32 x.o, .int .i32 x.px, .int .i32 x.py, .int .i32 x.vx, .int .i32 x.vy] := by rw [← hW]; exact za_new _ _ _ rfl
      have g8 : Kep wr.heap.size wr W8 := by rw [← hW]; exact kep_more (Kep.refl _ _) _
      replace Zx := ze_kep Zx g8
      replace gg := gg.trans (g8.mono gg.size)
      clear hW g8 Zy hgl hgy x6 x7 x8 x9
      generalize wr.heap.size = bb at *
      refine wp_region_noPanic ?_
      refine wp_region_held_drew (S := (fun w' => ZA w' bb [.int .u32 x.k, .int .i32 x.r, .int .i32 x.ax, .int .i32 x.ay, .int .i32 x.m, .int .i32 x.o, .int .i32 x.px, .int .i32 x.py, .int .i32 x.vx, .int .i32 x.vy] ∧ ZE w' gl (off + k * 10) [.int .u32 x.k, .int .i32 x.r, .int .i32 x.ax, .int .i32 x.ay, .int .i32 x.m, .int .i32 x.o, .int .i32 x.px, .int .i32 x.py, .int .i32 x.vx, .int .i32 x.vy] ∧ Kep w4.heap.size w4 w')) (by kernel_rfl) (⟨za_kep Zb (kep_drew (Kep.refl _ _)), ze_kep Zx (kep_drew (Kep.refl _ _)), gg.drew⟩) (fun hH => ?_)
      clear Zb Zx gg
      refine sT 0 hH ?_
      refine sT 1 hH ?_
      refine sT 2 hH ?_
      refine sT 3 hH ?_
      refine sT 4 hH ?_
      refine sT 5 hH ?_
      refine sE ?_
      obtain ⟨-, -, gg⟩ := hH
      go_wp2_with fail
      go_roundw
      case rel => exact ⟨k + 1, by omega, by go_num, Lib.hid gg⟩
      case measure => simp [RowKit.intOf]; omega
    · have i2 : ¬ (k : Int) < (na : Int) := by omega
      obtain rfl : k = na := by omega
      have gg := kep_next G0.out HK.out
      go_wp2_with fail
      go_ret
      exact ⟨rfl, gg⟩
/-- The law StepKeepsShapes. -/
theorem tkl_law (O : TOps) (AW : TAwake) (t : Int) (ht : 0 ≤ t ∧ t < 256) (L : List Bd) (v : Value) (w : World) (F0 : Fac w) (hq : Lst w v L) (HF : ∀ x ∈ L, Fits x) : Calls Tryz.prog 4 #[v, .int .u8 t] w fun e w' => e = .returned (.bool true) ∧ Kep w.heap.size w w' := by
  cases hvw : viwB L
  · exact tkl_bad (Lib.hid AW) t L v w F0 hq hvw
  · exact tkl_ok O (Lib.hid AW) t ht L v w F0 hq (Lib.hid HF) hvw
end Go.Proofs.YtaknmlohnifcdaaGreatDoor
