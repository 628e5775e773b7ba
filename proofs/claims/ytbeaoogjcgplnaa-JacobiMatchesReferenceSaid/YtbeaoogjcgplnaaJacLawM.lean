/-
  Package jacobi: the law JacobiMatchesReference.
-/
import Derived.Test.YtbeaoogjcgplnaaJacCon
import Derived.Deep.DeepCutAuto
import Derived.Deep.QuietTactic
import Derived.BigQuiet
namespace Go.Proofs.Ytbeaoogjcgplnaa
open Go.RowKit Go.Lib

set_option maxRecDepth 100000 in
set_option maxHeartbeats 2000000 in
theorem jml_bad (AW : Hid JAwake)  (L : List Bd) (v : Value) (w : World) (hq : Lst w v L) (C : List Ct) (l : Value) (hc : Sq ctv 5 w l C) (hvw : viwB L = false) : Calls Try.prog 3 #[v, l] w fun e w' => e = .returned (.bool true) ∧ Kep w.heap.size w w' := by
  obtain ⟨base, cap, rfl⟩ := hq.shape
  have HQ := Lib.hid hq
  have HC := Lib.hid hc
  clear hq hc
  have VW : Hid (∀ v w, Lst w v L → Calls Try.prog 8 #[v] w fun e w' => ∃ v', e = .returned (.tuple #[v', .bool false]) ∧ Lst w' v' (if L.length ≤ 40 then sortL L else []) ∧ Kep w.heap.size w w') := Lib.hid (fun v w h => (rvw L v w h).mono fun e w' ⟨v', h1, h2, h3⟩ => ⟨v', by rw [h1]; rw [hvw], h2.1, h3⟩)
  clear HC
  go_enter Try.func3, Try.ntmps3
  go_wp2_with (first
    | ((with_reducible refine (VW.out _ _ (HQ.out.kep (Kep.refl _ _))).mono ?_); rintro e w1 ⟨v1, rfl, l1, g1⟩
       have gg := kep_next (Kep.refl _ _) g1)
    | ((with_reducible refine (AW.out _).mono ?_); rintro e w2 ⟨rfl, g2⟩
       replace gg := kep_next gg g2
       replace l1 := l1.kep g2))
  go_ret
  exact ⟨rfl, gg⟩
set_option maxRecDepth 100000 in
set_option maxHeartbeats 2000000 in
theorem jml_not (AW : Hid JAwake)  (L : List Bd) (v : Value) (w : World) (hq : Lst w v L) (C : List Ct) (l : Value) (hc : Sq ctv 5 w l C) (HF : Hid (∀ x ∈ L, Fits x)) (hvw : viwB L = true) (hr : rgtJ (sortL L) C = false) : Calls Try.prog 3 #[v, l] w fun e w' => e = .returned (.bool true) ∧ Kep w.heap.size w w' := by
  obtain ⟨base, cap, rfl⟩ := hq.shape
  have HQ := Lib.hid hq
  have HC := Lib.hid hc
  clear hq hc
  have VW : Hid (∀ v w, Lst w v L → Calls Try.prog 8 #[v] w fun e w' => ∃ v', e = .returned (.tuple #[v', .bool true]) ∧ Lst w' v' (sortL L) ∧ Kep w.heap.size w w') := Lib.hid (fun v w h => (rvw L v w h).mono fun e w' ⟨v', h1, h2, h3⟩ => ⟨v', by rw [h1]; rw [hvw], by have := h2.1; rw [if_pos (vw_of hvw HF.out).1] at this; exact this, h3⟩)
  have HVW := Lib.hid (vw_of hvw HF.out).2.2
  obtain ⟨A, hA⟩ : ∃ A, A = sortL L := ⟨_, rfl⟩
  rw [← hA] at VW HVW hr
  clear hA
  have RR := Lib.hid (show RRj A C false by rw [← hr]; exact rrj A (by have := HVW.out.len; omega) C)
  go_enter Try.func3, Try.ntmps3
  go_wp2_with (first
    | ((with_reducible refine (VW.out _ _ (HQ.out.kep (Kep.refl _ _))).mono ?_); rintro e w1 ⟨v1, rfl, l1, g1⟩
       have gg := kep_next (Kep.refl _ _) g1)
    | ((with_reducible refine (AW.out _).mono ?_); rintro e w2 ⟨rfl, g2⟩
       replace gg := kep_next gg g2
       replace l1 := l1.kep g2)
    | ((with_reducible refine (RR.out _ _ _ l1 (HC.out.kep gg)).mono ?_); rintro e w3 ⟨rfl, g3⟩
       replace gg := kep_next gg g3
       replace l1 := l1.kep g3))
  go_ret
  exact ⟨rfl, gg⟩
set_option maxRecDepth 100000 in
set_option maxHeartbeats 8000000 in
theorem jml_ok (O : JOps) (AW : Hid JAwake)  (L : List Bd) (v : Value) (w : World) (hq : Lst w v L) (C : List Ct) (l : Value) (hc : Sq ctv 5 w l C) (HF : Hid (∀ x ∈ L, Fits x)) (hvw : viwB L = true) (hr : rgtJ (sortL L) C = true) : Calls Try.prog 3 #[v, l] w fun e w' => e = .returned (.bool true) ∧ Kep w.heap.size w w' := by
  obtain ⟨base, cap, rfl⟩ := hq.shape
  have HQ := Lib.hid hq
  have HC := Lib.hid hc
  clear hq hc
  have VW : Hid (∀ v w, Lst w v L → Calls Try.prog 8 #[v] w fun e w' => ∃ v', e = .returned (.tuple #[v', .bool true]) ∧ Lst w' v' (sortL L) ∧ Kep w.heap.size w w') := Lib.hid (fun v w h => (rvw L v w h).mono fun e w' ⟨v', h1, h2, h3⟩ => ⟨v', by rw [h1]; rw [hvw], by have := h2.1; rw [if_pos (vw_of hvw HF.out).1] at this; exact this, h3⟩)
  have HVW := Lib.hid (vw_of hvw HF.out).2.2
  obtain ⟨A, hA⟩ : ∃ A, A = sortL L := ⟨_, rfl⟩
  rw [← hA] at VW HVW hr
  clear hA
  have RR := Lib.hid (show RRj A C true by rw [← hr]; exact rrj A (by have := HVW.out.len; omega) C)
  have HJ := Lib.hid (jarg HVW.out hr)
  clear hr
  have SX := Lib.hid (rss_x A (by have := HVW.out.len; omega) (Lib.hid HJ.out.vb) (Lib.hid HVW.out.asc) C HJ.out.few (Lib.hid HJ.out.rg))
  have SY := Lib.hid (rss_y A (by have := HVW.out.len; omega) (Lib.hid HJ.out.vb) (Lib.hid HVW.out.asc) C HJ.out.few (Lib.hid HJ.out.rg))
  have RD := Lib.hid (rrd A (by have := HVW.out.len; omega) (Lib.hid HJ.out.vb) (Lib.hid HVW.out.asc) C HJ.out.few (Lib.hid HJ.out.rg))
  have SO := Lib.hid (rso A (by have := HVW.out.len; omega) (Lib.hid HJ.out.vb) (Lib.hid HVW.out.asc) C HJ.out.few (Lib.hid HJ.out.rg))
  have PS := Lib.hid (fun v w h k => O.sums v A l C w h k HJ.out)
  have PR := Lib.hid (fun v w h k => O.round v A l C w h k HJ.out)
  have PV := Lib.hid (fun v w h k => O.solve v A l C w h k HJ.out)
  have hal := HVW.out.len
  have hl1 : (A.map (sumJ (·.nx) A C)).length ≤ 1000000000 := by rw [List.length_map]; omega
  have hl2 : (A.map (sumJ (·.ny) A C)).length ≤ 1000000000 := by rw [List.length_map]; omega
  have hl3 : (rndL A C).length ≤ 1000000000 := by unfold rndL; rw [List.length_map]; omega
  have hl4 : (slvN C A 4).1.length ≤ 1000000000 := by rw [slv_len]; omega
  have LN1 := Lib.hid (fun va vb w h1 h2 => rnb (A.map (sumJ (·.nx) A C)) hl1 va vb w h1 h2)
  have LN2 := Lib.hid (fun va vb w h1 h2 => rnb (A.map (sumJ (·.ny) A C)) hl2 va vb w h1 h2)
  have LS3 := Lib.hid (fun va vb w h1 h2 => same_any va vb (rndL A C) w h1 h2 hl3)
  have LS4 := Lib.hid (fun va vb w h1 h2 => same_any va vb (slvN C A 4).1 w h1 h2 hl4)
  have q1 : (clL A C == clL A C) = true := by simp
  have q2 : ((slvN C A 4).2 == (slvN C A 4).2) = true := by simp
  clear hal hl1 hl2 hl3 hl4
  go_enter Try.func3, Try.ntmps3
  go_wp2_with (first
    | ((with_reducible refine (VW.out _ _ (HQ.out.kep (Kep.refl _ _))).mono ?_); rintro e w1 ⟨v1, rfl, l1, g1⟩
       have gg := kep_next (Kep.refl _ _) g1)
    | ((with_reducible refine (AW.out _).mono ?_); rintro e w2 ⟨rfl, g2⟩
       replace gg := kep_next gg g2
       replace l1 := l1.kep g2)
    | ((with_reducible refine (RR.out _ _ _ l1 (HC.out.kep gg)).mono ?_); rintro e w3 ⟨rfl, g3⟩
       replace gg := kep_next gg g3
       replace l1 := l1.kep g3)
    | ((with_reducible refine (PS.out _ _ l1 (HC.out.kep gg)).mono ?_); rintro e w4 ⟨a1, a2, rfl, ⟨sx, sy⟩, g4⟩
       replace gg := kep_next gg g4
       replace l1 := l1.kep g4)
    | ((with_reducible refine (PR.out _ _ l1 (HC.out.kep gg)).mono ?_); rintro e w5 ⟨b1, rfl, rn, g5⟩
       replace gg := kep_next gg g5
       replace l1 := l1.kep g5
       replace sx := sx.kep g5
       replace sy := sy.kep g5)
    | ((with_reducible refine (RD.out _ _ _ l1 (HC.out.kep gg)).mono ?_); rintro e w6 ⟨b2, rfl, rm, g6⟩
       replace gg := kep_next gg g6
       replace l1 := l1.kep g6
       replace sx := sx.kep g6
       replace sy := sy.kep g6
       replace rn := rn.kep g6)
    | ((with_reducible refine (PV.out _ _ l1 (HC.out.kep gg)).mono ?_); rintro e w7 ⟨b3, rfl, ⟨sn, _⟩, g7⟩
       replace gg := kep_next gg g7
       replace l1 := l1.kep g7
       replace sx := sx.kep g7
       replace sy := sy.kep g7
       replace rn := rn.kep g7
       replace rm := rm.kep g7)
    | ((with_reducible refine (SO.out _ _ _ l1 (HC.out.kep gg)).mono ?_); rintro e w8 ⟨b4, rfl, sm, g8⟩
       replace gg := kep_next gg g8
       replace l1 := l1.kep g8
       replace sx := sx.kep g8
       replace sy := sy.kep g8
       replace rn := rn.kep g8
       replace rm := rm.kep g8
       replace sn := sn.kep g8)
    | ((with_reducible refine (SX.out _ _ _ l1 (HC.out.kep gg)).mono ?_); rintro e w9 ⟨a3, rfl, tx, g9⟩
       replace gg := kep_next gg g9
       replace l1 := l1.kep g9
       replace sx := sx.kep g9
       replace sy := sy.kep g9
       replace rn := rn.kep g9
       replace rm := rm.kep g9
       replace sn := sn.kep g9
       replace sm := sm.kep g9)
    | ((with_reducible refine (LN1.out _ _ _ sx tx).mono ?_); rintro e w10 ⟨rfl, g10⟩
       replace gg := kep_next gg g10
       replace l1 := l1.kep g10
       replace sy := sy.kep g10
       replace rn := rn.kep g10
       replace rm := rm.kep g10
       replace sn := sn.kep g10
       replace sm := sm.kep g10)
    | ((with_reducible refine (SY.out _ _ _ l1 (HC.out.kep gg)).mono ?_); rintro e w11 ⟨a4, rfl, ty, g11⟩
       replace gg := kep_next gg g11
       replace l1 := l1.kep g11
       replace sy := sy.kep g11
       replace rn := rn.kep g11
       replace rm := rm.kep g11
       replace sn := sn.kep g11
       replace sm := sm.kep g11)
    | ((with_reducible refine (LN2.out _ _ _ sy ty).mono ?_); rintro e w12 ⟨rfl, g12⟩
       replace gg := kep_next gg g12
       replace rn := rn.kep g12
       replace rm := rm.kep g12
       replace sn := sn.kep g12
       replace sm := sm.kep g12)
    | ((with_reducible refine (LS3.out _ _ _ rn rm).mono ?_); rintro e w13 ⟨rfl, g13⟩
       replace gg := kep_next gg g13
       replace sn := sn.kep g13
       replace sm := sm.kep g13)
    | ((with_reducible refine (LS4.out _ _ _ sn sm).mono ?_); rintro e w14 ⟨rfl, g14⟩
       replace gg := kep_next gg g14))
  go_ret
  exact ⟨rfl, gg⟩
/-- The law JacobiMatchesReference. -/
theorem jml_law (O : JOps) (AW : JAwake)  (L : List Bd) (v : Value) (w : World) (hq : Lst w v L) (C : List Ct) (l : Value) (hc : Sq ctv 5 w l C) (HF : ∀ x ∈ L, Fits x) : Calls Try.prog 3 #[v, l] w fun e w' => e = .returned (.bool true) ∧ Kep w.heap.size w w' := by
  cases hvw : viwB L
  · exact jml_bad (Lib.hid AW)  L v w hq C l hc hvw
  · cases hr : rgtJ (sortL L) C
    · exact jml_not (Lib.hid AW)  L v w hq C l hc (Lib.hid HF) hvw hr
    · exact jml_ok O (Lib.hid AW)  L v w hq C l hc (Lib.hid HF) hvw hr
end Go.Proofs.Ytbeaoogjcgplnaa
