import Derived.Test.YtaknmlohnifcdaaGreatDoorJ21MCorRef1
import Derived.Test.YtaknmlohnifcdaaGreatDoorMStpRef
import Derived.Test.YtaknmlohnifcdaaGreatDoorJ02MSeq
import Derived.Deep.DeepCutAuto
import Derived.Deep.QuietTactic
import Derived.BigQuiet
set_option maxHeartbeats 4000000
set_option maxRecDepth 100000
namespace Go.Proofs.YtaknmlohnifcdaaGreatDoor
open Go.RowKit Go.Lib

theorem tml_bad (AW : Hid TAwake) (L : List Bd) (v : Value) (w : World) (F0 : Fac w) (hq : Lst w v L) (hvw : viwB L = false) : Calls Tryz.prog 3 #[v] w fun e w' => e = .returned (.bool true) ∧ Kep w.heap.size w w' := by
 obtain ⟨base, cap, rfl⟩ := hq.shape
 have HQ := Lib.hid hq
 clear hq
 have VW : Hid (∀ v w, Lst w v L → Calls Tryz.prog 8 #[v] w fun e w' => ∃ v', e = .returned (.tuple #[v', .bool false]) ∧ Lst w' v' (if L.length ≤ 40 then sortL L else []) ∧ Kep w.heap.size w w') := Lib.hid (fun v w h => (rvw L v w h).mono fun e w' ⟨v', h1, h2, h3⟩ => ⟨v', by rw [h1, hvw], h2.1, h3⟩)
 go_enter Tryz.func3, Tryz.ntmps3
 go_wp2_with (first
  | ((with_reducible refine (VW.out _ _ (HQ.out.kep (Kep.refl _ _))).mono ?_); rintro e w1 ⟨v1, rfl, l1, g1⟩
     have gg := kep_next (Kep.refl _ _) g1)
  | ((with_reducible refine (AW.out _ (F0.kep (by (repeat (first | with_reducible assumption | refine kep_more ?_ _ | refine kep_drew ?_ | exact Kep.refl _ _))))).mono ?_); rintro e w2 ⟨rfl, g2⟩
     replace gg := kep_next gg g2
     replace l1 := l1.kep g2))
 go_ret
 exact ⟨rfl, gg⟩
theorem tml_ok (O : TOps) (AW : Hid TAwake) (L : List Bd) (v : Value) (w : World) (F0 : Fac w) (hq : Lst w v L) (HF : Hid (∀ x ∈ L, Fits x)) (hvw : viwB L = true) : Calls Tryz.prog 3 #[v] w fun e w' => e = .returned (.bool true) ∧ Kep w.heap.size w w' := by
 obtain ⟨base, cap, rfl⟩ := hq.shape
 have HQ := Lib.hid hq
 clear hq
 have VW : Hid (∀ v w, Lst w v L → Calls Tryz.prog 8 #[v] w fun e w' => ∃ v', e = .returned (.tuple #[v', .bool true]) ∧ Lst w' v' (sortL L) ∧ Kep w.heap.size w w') := Lib.hid (fun v w h => (rvw L v w h).mono fun e w' ⟨v', h1, h2, h3⟩ => ⟨v', by rw [h1]; rw [hvw], by have := h2.1; rw [if_pos (vw_of hvw HF.out).1] at this; exact this, h3⟩)
 have HVW := Lib.hid (vw_of hvw HF.out).2.2
 obtain ⟨A, hA⟩ : ∃ A, A = sortL L := ⟨_, rfl⟩
 rw [← hA] at VW HVW
 clear hA
 have hal := HVW.out.len
 have hlC := cons_max HVW.out.len
 have RST := Lib.hid (rst HVW.out)
 have ST := Lib.hid (fun v w f h => O.stp v A w f h HVW.out)
 have S1 := Lib.hid (fun va vb w h1 h2 => same_any va vb (stpL A) w h1 h2 (by have := (vw_stp HVW.out).len; omega))
 unfold RSt at RST
 generalize stpL A = B at *
 obtain ⟨zc, hzc⟩ : ∃ z, z = stpC A := ⟨_, rfl⟩
 rw [← hzc] at RST ST
 have b1 : (zc == zc) = true := by simp
 clear hzc
 generalize hnc : (consL A).length = nc at *
 generalize hna : A.length = na at *
 have HNA := Lib.hid hna
 clear hnc hna
 go_enter Tryz.func3, Tryz.ntmps3
 go_upto_region 6 with (first
  | ((with_reducible refine (VW.out _ _ (HQ.out.kep (Kep.refl _ _))).mono ?_); rintro e w1 ⟨v1, rfl, l1, g1⟩
     have gg := kep_next (Kep.refl _ _) g1)
  | ((with_reducible refine (AW.out _ (F0.kep (by (repeat (first | with_reducible assumption | refine kep_more ?_ _ | refine kep_drew ?_ | exact Kep.refl _ _))))).mono ?_); rintro e w2 ⟨rfl, g2⟩
     replace gg := kep_next gg g2
     replace l1 := l1.kep g2)
  | ((with_reducible refine (ST.out _ _ (F0.kep gg) l1).mono ?_); rintro e w3 ⟨v3, n3, rfl, ⟨l3, h3, h4, -⟩, g3⟩
     have HN3 := Lib.hid h3
     have HN4 := Lib.hid h4
     clear h3 h4
     replace gg := kep_next gg g3
     replace l1 := l1.kep g3)
  | ((with_reducible refine (RST.out _ _ (l1.kep (kep_more (Kep.refl _ _) _))).mono ?_); rintro e w4 ⟨v4, rfl, l4, g4⟩
     have Zt : ZA w4 w3.heap.size [.int .i64 n3, .int .i64 (nc : Int), .bool zc] := zK g4
     have gk := kep_next (kep_more (Kep.refl _ _) _) g4
     replace gg := kep_next gg gk
     replace l1 := l1.kep gk
     replace l3 := l3.kep gk
     clear gk))
 obtain ⟨ba, ca, rfl⟩ := l1.shape
 rw [HNA.out]
 obtain ⟨n1, hn1⟩ : ∃ n1, n1 = (na : Int) - 1 := ⟨_, rfl⟩
 obtain ⟨n2, hn2⟩ : ∃ n2, n2 = (na : Int) * n1 := ⟨_, rfl⟩
 have hb1 : -1 ≤ n1 ∧ n1 ≤ 39 := by omega
 have hb2 : 0 ≤ n2 ∧ n2 ≤ 1600 := by
  rw [hn2]
  rcases Nat.eq_zero_or_pos na with q | q
  ·rw [q]; simp
  ·have h1 := Int.mul_le_mul (show (na : Int) ≤ 40 by omega) hb1.2 (by omega) (by omega)
   have h2 := Int.mul_nonneg (show (0 : Int) ≤ (na : Int) by omega) (show 0 ≤ n1 by omega)
   omega
 have f1 : wrap64 ((na : Int) - 1) = n1 := by unfold wrap64; omega
 have f2 : IntKind.i64.wrap ((na : Int) - 1) = n1 := by rw [IntKind.wrap_i64]; omega
 have f3 : wrap64 ((na : Int) * n1) = n2 := by rw [← hn2]; unfold wrap64; omega
 have f4 : IntKind.i64.wrap ((na : Int) * n1) = n2 := by rw [← hn2, IntKind.wrap_i64]; omega
 have f5 : (nc : Int) ≤ n3 := HN3.out
 have f6 : n3 ≤ n2 / 2 := by have := HN4.out; rw [← hn1, ← hn2] at this; omega
 have f7 : Int.tdiv n2 2 = n2 / 2 := Int.tdiv_eq_ediv_of_nonneg hb2.1
 have zt := za_lt Zt
 clear hn1 hn2 l1
 go_wp2_with ((with_reducible refine (S1.out _ _ _ l3 l4).mono ?_); rintro e w5 ⟨rfl, g5⟩; replace Zt := za_kep Zt g5; replace gg := kep_next gg g5; replace zt := za_lt Zt)
 go_ret
 exact ⟨rfl, gg⟩
theorem tml_law (O : TOps) (AW : TAwake) (L : List Bd) (v : Value) (w : World) (F0 : Fac w) (hq : Lst w v L) (HF : ∀ x ∈ L, Fits x) : Calls Tryz.prog 3 #[v] w fun e w' => e = .returned (.bool true) ∧ Kep w.heap.size w w' := by
 cases hvw : viwB L
 ·exact tml_bad (Lib.hid AW) L v w F0 hq hvw
 ·exact tml_ok O (Lib.hid AW) L v w F0 hq (Lib.hid HF) hvw
end Go.Proofs.YtaknmlohnifcdaaGreatDoor
