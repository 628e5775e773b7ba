import Derived.Test.YtaknmlohnifcdaaGreatDoorJ21MCorRef1
import Derived.Test.YtaknmlohnifcdaaGreatDoorJ22MCtsRef
import Derived.Test.YtaknmlohnifcdaaGreatDoorJ19MCtsMath
import Derived.Deep.DeepCutAuto
import Derived.OwnWalk
import Derived.Deep.QuietTactic
import Derived.BigQuiet
set_option maxHeartbeats 4000000
set_option maxRecDepth 100000
namespace Go.Proofs.YtaknmlohnifcdaaGreatDoor
open Go.RowKit Go.Lib

abbrev RSt (L : List Bd) : Prop := ∀ v w, Lst w v L → Calls Tryz.prog 11 #[v] w fun e w' => ∃ v', e = .returned (.tuple #[v', .int .i64 ((consL L).length : Int), .bool (stpC L)]) ∧ Lst w' v' (stpL L) ∧ Kep w.heap.size w w'
theorem rst {L : List Bd} (h : Vw L) : RSt L := fun v w hv => by
 obtain ⟨base, cap, rfl⟩ := hv.shape
 have HL := Lib.hid hv
 have hlen := h.len
 have hV : ∀ x ∈ L, Vb x := fun x hx => vb_of (h.ok x hx)
 have hG := (vw_G h)
 have RA := Lib.hid (fun v w k => rka L h.len h.asc (Lib.hid h.ok) v w k)
 have RG := Lib.hid (fun v w k => rig L (by omega) (Lib.hid hV) v w k)
 have RS := Lib.hid (fun v l w k q => rso (stpG L) (by have := hG.len; omega) (Lib.hid fun x hx => vb_of (hG.ok x hx)) (Lib.hid hG.asc) (consL L) (few_cons h) (Lib.hid (jarg_stp h).rg) v l w k q)
 have RF := Lib.hid (fun v l w k q => rsf L (by omega) (Lib.hid hV) (Lib.hid h.asc) (consL L) (few_cons h) (Lib.hid (rsc_cons h)) v l w k q)
 have RM := Lib.hid (fun v s w k q => rim (stpV L) (by rw [lenV]; omega) (Lib.hid (vw_V h).ok) (stpS L) (lenS L) (Lib.hid (sin_stp h)) v s w k q)
 have HC : Hid (stpC L = (L.any grvC || (slvN (consL L) (stpG L) 4).2 || (mtA (stpV L) (stpS L)).any id)) := Lib.hid rfl
 have HR : Hid (mtL (stpV L) (stpS L) = stpL L) := Lib.hid rfl
 change Hid (∀ v w, Lst w v L → Calls Tryz.prog 25 #[v] w fun e w' => ∃ v', e = .returned (.tuple #[v', .bool (L.any grvC)]) ∧ Lst w' v' (stpG L) ∧ Kep w.heap.size w w') at RG
 change Hid (∀ v l w, Lst w v (stpG L) → Sq ctv 5 w l (consL L) → Calls Tryz.prog 26 #[v, l] w fun e w' => ∃ v', e = .returned (.tuple #[v', .bool (slvN (consL L) (stpG L) 4).2]) ∧ Lst w' v' (stpV L) ∧ Kep w.heap.size w w') at RS
 change Hid (∀ v l w, Lst w v L → Sq ctv 5 w l (consL L) → Calls Tryz.prog 28 #[v, l] w fun e w' => ∃ v', e = .returned v' ∧ Sq shv 2 w' v' (stpS L) ∧ Kep w.heap.size w w') at RF
 clear hv hV hG h hlen
 obtain ⟨zg, hzg⟩ : ∃ z, z = L.any grvC := ⟨_, rfl⟩
 obtain ⟨zs, hzs⟩ : ∃ z, z = (slvN (consL L) (stpG L) 4).2 := ⟨_, rfl⟩
 obtain ⟨zm, hzm⟩ : ∃ z, z = (mtA (stpV L) (stpS L)).any id := ⟨_, rfl⟩
 rw [← hzg] at RG HC
 rw [← hzs] at RS HC
 rw [← hzm] at RM HC
 clear hzg hzs hzm
 rw [HC.out]
 clear HC
 generalize hnc : (consL L).length = nc at *
 have HN := Lib.hid hnc
 clear hnc
 cases zg <;> cases zs <;>
 ·go_enter Tryz.func11, Tryz.ntmps11
  go_wp2_with (first
   | ((with_reducible refine (RA.out _ _ (HL.out.kep (Kep.refl _ _))).mono ?_); rintro e w1 ⟨v1, rfl, q1, g1⟩; obtain ⟨b1, c1, rfl⟩ := q1.shape; rw [HN.out] at q1 ⊢; have gg := g1)
   | ((with_reducible refine (RG.out _ _ (HL.out.kep gg)).mono ?_); rintro e w2 ⟨v2, rfl, l2, g2⟩; replace q1 := q1.kep g2; replace gg := kep_next gg g2)
   | ((with_reducible refine (RS.out _ _ _ l2 q1).mono ?_); rintro e w3 ⟨v3, rfl, l3, g3⟩; replace q1 := q1.kep g3; replace gg := kep_next gg g3)
   | ((with_reducible refine (RF.out _ _ _ (HL.out.kep gg) q1).mono ?_); rintro e w4 ⟨v4, rfl, q4, g4⟩; replace l3 := l3.kep g4; replace gg := kep_next gg g4)
   | ((with_reducible refine (RM.out _ _ _ l3 q4).mono ?_); rintro e w5 ⟨v5, rfl, l5, g5⟩; replace gg := kep_next gg g5))
  go_ret3
  exact ⟨_, rfl, by rw [← HR.out]; exact l5, gg⟩
end Go.Proofs.YtaknmlohnifcdaaGreatDoor
