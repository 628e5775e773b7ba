/-
  Package step: the law StepMoves.
-/
import Derived.Test.YtaknmlohnifcdaaGreatDoorJ19CtsMath
import Derived.Test.YtaknmlohnifcdaaGreatDoorStpMath2
import Derived.Test.YtaknmlohnifcdaaGreatDoorJ20IntMvd
import Derived.Test.YtaknmlohnifcdaaGreatDoorJ06StorePut
import Derived.Test.YtaknmlohnifcdaaGreatDoorJ02Seq
import Derived.Deep.DeepCutAuto
import Derived.Deep.QuietTactic
import Derived.BigQuiet
namespace Go.Proofs.YtaknmlohnifcdaaGreatDoor
open Go.RowKit Go.Lib

set_option maxRecDepth 100000 in
set_option maxHeartbeats 2000000 in
theorem tvl_bad (AW : Hid TAwake) (da db : Int) (L : List Bd) (v : Value) (w : World) (F0 : Fac w) (hq : Lst w v L) (hvw : viwB L = false) : Calls Tryz.prog 5 #[v, .agg #[.int .i32 da, .int .i32 db]] w fun e w' => e = .returned (.bool true) ∧ Kep w.heap.size w w' := by
  obtain ⟨base, cap, rfl⟩ := hq.shape
  have HQ := Lib.hid hq
  clear hq
  have VW : Hid (∀ v w, Lst w v L → Calls Tryz.prog 8 #[v] w fun e w' => ∃ v', e = .returned (.tuple #[v', .bool false]) ∧ Lst w' v' (if L.length ≤ 40 then sortL L else []) ∧ Kep w.heap.size w w') := Lib.hid (fun v w h => (rvw L v w h).mono fun e w' ⟨v', h1, h2, h3⟩ => ⟨v', by rw [h1, hvw], h2.1, h3⟩)
  go_enter Tryz.func5, Tryz.ntmps5
  go_wp2_with (first
    | ((with_reducible refine (VW.out _ _ (HQ.out.kep (kep_more (Kep.refl _ _) _))).mono ?_); rintro e w1 ⟨v1, rfl, l1, g1⟩
       have Zd := za_kep (b := w.heap.size) (vs := [.int .i32 da, .int .i32 db]) (by repeat (first | exact za_new _ _ _ (by first | rfl | simp) | refine za_more ?_ _)) g1
       have gg := kep_next (kep_more (Kep.refl _ _) _) g1)
    | ((with_reducible refine (AW.out _ (F0.kep (by (repeat (first | with_reducible assumption | refine kep_more ?_ _ | refine kep_drew ?_ | exact Kep.refl _ _))))).mono ?_); rintro e w2 ⟨rfl, g2⟩
       replace Zd := za_kep Zd g2
       replace gg := kep_next gg g2
       replace l1 := l1.kep g2))
  go_ret
  exact ⟨rfl, gg⟩
set_option maxRecDepth 100000 in
set_option maxHeartbeats 2000000 in
theorem tvl_no (_ : TOps) (AW : Hid TAwake) (da db : Int) (hda : -2147483648 ≤ da ∧ da < 2147483648) (hdb : -2147483648 ≤ db ∧ db < 2147483648) (L : List Bd) (v : Value) (w : World) (F0 : Fac w) (hq : Lst w v L) (HF : Hid (∀ x ∈ L, Fits x)) (hvw : viwB L = true) (hg : (sortL L).all (mvdO da db) = false) : Calls Tryz.prog 5 #[v, .agg #[.int .i32 da, .int .i32 db]] w fun e w' => e = .returned (.bool true) ∧ Kep w.heap.size w w' := by
  obtain ⟨base, cap, rfl⟩ := hq.shape
  have HQ := Lib.hid hq
  clear hq
  have VW : Hid (∀ v w, Lst w v L → Calls Tryz.prog 8 #[v] w fun e w' => ∃ v', e = .returned (.tuple #[v', .bool true]) ∧ Lst w' v' (sortL L) ∧ Kep w.heap.size w w') := Lib.hid (fun v w h => (rvw L v w h).mono fun e w' ⟨v', h1, h2, h3⟩ => ⟨v', by rw [h1]; rw [hvw], by have := h2.1; rw [if_pos (vw_of hvw HF.out).1] at this; exact this, h3⟩)
  have HVW := Lib.hid (vw_of hvw HF.out).2.2
  obtain ⟨A, hA⟩ : ∃ A, A = sortL L := ⟨_, rfl⟩
  rw [← hA] at VW HVW
  rw [← hA] at hg
  clear hA
  have hal := HVW.out.len
  have RM : Hid (∀ v w, Lst w v A → Calls Tryz.prog 15 #[v, .agg #[.int .i32 da, .int .i32 db]] w fun e w' => ∃ v', e = .returned (.tuple #[v', .bool false]) ∧ Lst w' v' [] ∧ Kep w.heap.size w w') := Lib.hid (fun v w h => (rmvd A (by omega) (Lib.hid HVW.out.ok) hda hdb v w h).mono fun e w' ⟨v', h1, h2, h3⟩ => ⟨v', by rw [h1, hg], by unfold mvdN at h2; rw [if_neg (by rw [hg]; decide)] at h2; exact h2, h3⟩)
  go_enter Tryz.func5, Tryz.ntmps5
  go_wp2_with (first
    | ((with_reducible refine (VW.out _ _ (HQ.out.kep (kep_more (Kep.refl _ _) _))).mono ?_); rintro e w1 ⟨v1, rfl, l1, g1⟩
       have Zd := za_kep (b := w.heap.size) (vs := [.int .i32 da, .int .i32 db]) (by repeat (first | exact za_new _ _ _ (by first | rfl | simp) | refine za_more ?_ _)) g1
       have gg := kep_next (kep_more (Kep.refl _ _) _) g1)
    | ((with_reducible refine (AW.out _ (F0.kep (by (repeat (first | with_reducible assumption | refine kep_more ?_ _ | refine kep_drew ?_ | exact Kep.refl _ _))))).mono ?_); rintro e w2 ⟨rfl, g2⟩
       replace Zd := za_kep Zd g2
       replace gg := kep_next gg g2
       replace l1 := l1.kep g2)
    | ((with_reducible refine (RM.out _ _ l1).mono ?_); rintro e w3 ⟨v3, rfl, l3, g3⟩; replace gg := kep_next gg g3))
  go_ret
  exact ⟨rfl, gg⟩
/-- A view moved within the world. -/
theorem vw_mvd {A : List Bd} {da db : Int} (h : Vw A) (hg : A.all (mvdO da db) = true) : Vw (A.map (mvB da db)) := vw_mvK h fun x hx => by
  have q := List.all_eq_true.1 hg x hx
  unfold mvdO at q
  have r := of_decide_eq_true q
  exact r
theorem all_mvd {A : List Bd} {da db : Int} (h : Vw A) (hg : A.all (mvdO da db) = true) (c1 : stpC A = false) (c2 : stpC (A.map (mvB da db)) = false) : (stpL A).all (mvdO da db) = true := by
  rw [List.all_eq_true]
  intro y hy
  have e := stp_mv da db h c1 c2
  have m : mvB da db y ∈ stpL (A.map (mvB da db)) := by rw [e]; exact List.mem_map.2 ⟨y, hy, rfl⟩
  obtain ⟨_, _, _, _, h5, _⟩ := chk_six ((vw_stp (vw_mvd h hg)).ok _ m)
  exact decide_eq_true h5
set_option maxRecDepth 100000 in
set_option maxHeartbeats 8000000 in
theorem tvl_ok (O : TOps) (AW : Hid TAwake) (da db : Int) (hda : -2147483648 ≤ da ∧ da < 2147483648) (hdb : -2147483648 ≤ db ∧ db < 2147483648) (L : List Bd) (v : Value) (w : World) (F0 : Fac w) (hq : Lst w v L) (HF : Hid (∀ x ∈ L, Fits x)) (hvw : viwB L = true) (hg : (sortL L).all (mvdO da db) = true) : Calls Tryz.prog 5 #[v, .agg #[.int .i32 da, .int .i32 db]] w fun e w' => e = .returned (.bool true) ∧ Kep w.heap.size w w' := by
  obtain ⟨base, cap, rfl⟩ := hq.shape
  have HQ := Lib.hid hq
  clear hq
  have VW : Hid (∀ v w, Lst w v L → Calls Tryz.prog 8 #[v] w fun e w' => ∃ v', e = .returned (.tuple #[v', .bool true]) ∧ Lst w' v' (sortL L) ∧ Kep w.heap.size w w') := Lib.hid (fun v w h => (rvw L v w h).mono fun e w' ⟨v', h1, h2, h3⟩ => ⟨v', by rw [h1]; rw [hvw], by have := h2.1; rw [if_pos (vw_of hvw HF.out).1] at this; exact this, h3⟩)
  have HVW := Lib.hid (vw_of hvw HF.out).2.2
  obtain ⟨A, hA⟩ : ∃ A, A = sortL L := ⟨_, rfl⟩
  rw [← hA] at VW HVW
  rw [← hA] at hg
  clear hA
  have hal := HVW.out.len
  have HVM := Lib.hid (vw_mvd HVW.out hg)
  have RM : Hid (∀ v w, Lst w v A → Calls Tryz.prog 15 #[v, .agg #[.int .i32 da, .int .i32 db]] w fun e w' => ∃ v', e = .returned (.tuple #[v', .bool true]) ∧ Lst w' v' (A.map (mvB da db)) ∧ Kep w.heap.size w w') := Lib.hid (fun v w h => (rmvd A (by omega) (Lib.hid HVW.out.ok) hda hdb v w h).mono fun e w' ⟨v', h1, h2, h3⟩ => ⟨v', by rw [h1, hg], by unfold mvdN at h2; rw [if_pos hg] at h2; exact h2, h3⟩)
  have RN : Hid (stpC A = false → stpC (A.map (mvB da db)) = false → ∀ v w, Lst w v (stpL A) → Calls Tryz.prog 15 #[v, .agg #[.int .i32 da, .int .i32 db]] w fun e w' => ∃ v', e = .returned (.tuple #[v', .bool true]) ∧ Lst w' v' (stpL (A.map (mvB da db))) ∧ Kep w.heap.size w w') := Lib.hid (fun c1 c2 v w h => (rmvd (stpL A) (by have := (vw_stp HVW.out).len; omega) (Lib.hid (vw_stp HVW.out).ok) hda hdb v w h).mono fun e w' ⟨v', h1, h2, h3⟩ => ⟨v', by rw [h1, all_mvd HVW.out hg c1 c2], by unfold mvdN at h2; rw [if_pos (all_mvd HVW.out hg c1 c2)] at h2; rw [stp_mv da db HVW.out c1 c2]; exact h2, h3⟩)
  have SA := Lib.hid (fun v w f h => O.stp v A w f h HVW.out)
  have SB := Lib.hid (fun v w f h => O.stp v (A.map (mvB da db)) w f h HVM.out)
  rw [cons_mv] at SB
  have S1 := Lib.hid (fun va vb w h1 h2 => same_any va vb (stpL (A.map (mvB da db))) w h1 h2 (by have := (vw_stp HVM.out).len; omega))
  generalize A.map (mvB da db) = M at *
  generalize stpL M = N at *
  generalize stpL A = B at *
  obtain ⟨zA, hzA⟩ : ∃ z, z = stpC A := ⟨_, rfl⟩
  obtain ⟨zM, hzM⟩ : ∃ z, z = stpC M := ⟨_, rfl⟩
  rw [← hzA] at SA RN
  rw [← hzM] at SB RN
  generalize (consL A).length = nc at *
  clear hzA hzM hg
  go_enter Tryz.func5, Tryz.ntmps5
  go_upto_region 9 with (first
    | ((with_reducible refine (VW.out _ _ (HQ.out.kep (kep_more (Kep.refl _ _) _))).mono ?_); rintro e w1 ⟨v1, rfl, l1, g1⟩
       have Zd := za_kep (b := w.heap.size) (vs := [.int .i32 da, .int .i32 db]) (by repeat (first | exact za_new _ _ _ (by first | rfl | simp) | refine za_more ?_ _)) g1
       have gg := kep_next (kep_more (Kep.refl _ _) _) g1)
    | ((with_reducible refine (AW.out _ (F0.kep (by (repeat (first | with_reducible assumption | refine kep_more ?_ _ | refine kep_drew ?_ | exact Kep.refl _ _))))).mono ?_); rintro e w2 ⟨rfl, g2⟩
       replace Zd := za_kep Zd g2
       replace gg := kep_next gg g2
       replace l1 := l1.kep g2)
    | ((with_reducible refine (RM.out _ _ l1).mono ?_); rintro e w3 ⟨v3, rfl, l3, g3⟩; replace Zd := za_kep Zd g3; replace l1 := l1.kep g3; replace gg := kep_next gg g3)
    | ((with_reducible refine (SA.out _ _ (F0.kep gg) l1).mono ?_); rintro e w4 ⟨v4, n4, rfl, ⟨l4, -, -, -⟩, g4⟩; replace Zd := za_kep Zd g4; replace l3 := l3.kep g4; replace gg := kep_next gg g4)
    | ((with_reducible refine (SB.out _ _ (F0.kep (kep_more gg _)) (l3.kep (kep_more (Kep.refl _ _) _))).mono ?_); rintro e w5 ⟨v5, n5, rfl, ⟨l5, -, -, -⟩, g5⟩; have gk := kep_next (kep_more (Kep.refl _ _) _) g5; have Zs : ZA w5 w4.heap.size [.int .i64 n4, .int .i64 (nc : Int), .bool zA] := zK g5; replace Zd := za_kep Zd gk; replace l4 := l4.kep gk; replace gg := kep_next gg gk; clear gk))
  generalize hW : World.alloc w5 _ = W6
  have g6 : Kep w5.heap.size w5 W6 := by rw [← hW]; exact kep_more (Kep.refl _ _) _
  have Zt : ZA W6 w5.heap.size [.int .i64 n5, .int .i64 (nc : Int), .bool zM] := by rw [← hW]; exact za_new _ _ _ rfl
  clear hW
  replace Zs := za_kep Zs g6
  replace Zd := za_kep Zd g6
  replace l4 := l4.kep g6
  replace l5 := l5.kep g6
  replace gg := kep_next gg g6
  clear g6 l1 l3
  cases zA with
  | true =>
    go_wp2_with fail
    go_ret
    exact ⟨rfl, gg⟩
  | false =>
    cases zM with
    | true =>
      go_wp2_with fail
      go_ret
      exact ⟨rfl, gg⟩
    | false =>
      have RN2 := Lib.hid (RN.out rfl rfl)
      go_wp2_with (first
        | ((with_reducible refine (RN2.out _ _ l4).mono ?_); rintro e w7 ⟨v7, rfl, l7, g7⟩; replace Zs := za_kep Zs g7; replace Zt := za_kep Zt g7; replace l5 := l5.kep g7; replace gg := kep_next gg g7)
        | ((with_reducible refine (S1.out _ _ _ l5 l7).mono ?_); rintro e w8 ⟨rfl, g8⟩; replace Zs := za_kep Zs g8; replace Zt := za_kep Zt g8; replace gg := kep_next gg g8))
      go_ret
      exact ⟨rfl, gg⟩
/-- The law StepMoves. -/
theorem tvl_law (O : TOps) (AW : TAwake) (da db : Int) (hda : -2147483648 ≤ da ∧ da < 2147483648) (hdb : -2147483648 ≤ db ∧ db < 2147483648) (L : List Bd) (v : Value) (w : World) (F0 : Fac w) (hq : Lst w v L) (HF : ∀ x ∈ L, Fits x) : Calls Tryz.prog 5 #[v, .agg #[.int .i32 da, .int .i32 db]] w fun e w' => e = .returned (.bool true) ∧ Kep w.heap.size w w' := by
  cases hvw : viwB L
  · exact tvl_bad (Lib.hid AW) da db L v w F0 hq hvw
  · cases hg : (sortL L).all (mvdO da db)
    · exact tvl_no O (Lib.hid AW) da db hda hdb L v w F0 hq (Lib.hid HF) hvw hg
    · exact tvl_ok O (Lib.hid AW) da db hda hdb L v w F0 hq (Lib.hid HF) hvw hg
end Go.Proofs.YtaknmlohnifcdaaGreatDoor
