import Derived.Test.YtaknmlohnifcdaaGreatDoorJ21MCorRef1
import Derived.Test.YtaknmlohnifcdaaGreatDoorJ23MPointCon
import Derived.Test.YtaknmlohnifcdaaGreatDoorJ24MIntCon
import Derived.Test.YtaknmlohnifcdaaGreatDoorJ02MSeq
import Derived.Test.YtaknmlohnifcdaaGreatDoorJ05MStorePut
import Derived.Deep.DeepCutAuto
import Derived.Deep.QuietTactic
import Derived.BigQuiet
set_option maxHeartbeats 4000000
set_option maxRecDepth 100000
namespace Go.Proofs.YtaknmlohnifcdaaGreatDoor
open Go.RowKit Go.Lib

def exT1 : Bd := ⟨0, 65536, 0, 0, 65536, 0, 0, 0, 0, 0⟩
def exT1s : Bd := ⟨0, 65536, 0, 0, 65536, 0, 0, (-16), 0, (-1024)⟩
def exT1n : Bd := ⟨0, 65536, 0, 0, 65536, 0, 0, (-48), 0, (-2048)⟩
def exTa : Bd := ⟨1, 65536, 0, 0, 65536, 0, 0, 0, 65536, 0⟩
def exTb : Bd := ⟨2, 65536, 0, 0, 0, 0, 131071, 0, 0, 0⟩
def exTas : Bd := ⟨1, 65536, 0, 0, 65536, 0, 0, (-16), 0, (-1024)⟩
def exT0 : Bd := ⟨0, 65536, 0, 0, 0, 0, 0, 0, 0, 0⟩
theorem exT1_vw : Vw [exT1] := ⟨by simp [Asc], by decide, by decide, by decide⟩
theorem exT2_vw : Vw [exTa, exTb] := ⟨by simp [Asc, exTa, exTb], by decide, by decide, by decide⟩
theorem exT1_stp : stpL [exT1] = [exT1s] := by kernel_rfl
theorem exT1_cl : stpC [exT1] = false := by kernel_rfl
theorem exT1_n : stpN [exT1] 2 = [exT1n] := by kernel_rfl
theorem exT1_nc : clN [exT1] 2 = false := by kernel_rfl
theorem exT1_nt : ctN [exT1] 2 = 0 := by kernel_rfl
theorem exT0_fr : frB exT0 = exT0 := by kernel_rfl
theorem exT2_con : consL [exTa, exTb] = [⟨1, 2, 65536, 0, 1⟩] := by
 have h := con_at (x := exTa) (y := exTb) (n := 131071) (tw_is (a := 0) (b := 0) (c := 131071) (d := 0) (t := 17179607041) (by decide +kernel)) ⟨by decide, by decide, by decide⟩
 have e : tchB exTa exTb = true := by rw [h.2.1]; decide
 have c := h.1
 unfold conV at c
 rw [if_pos e] at c
 show conO exTa [exTb] ++ (conO exTb [] ++ []) = _
 rw [conO_cons, if_pos e, c]
 rfl
theorem exT2_stp : stpL [exTa, exTb] = [exTas, exTb] := by
 unfold stpL stpV stpS
 rw [exT2_con]
 kernel_rfl
theorem exT2_cl : stpC [exTa, exTb] = false := by
 unfold stpC stpV stpS
 rw [exT2_con]
 kernel_rfl
theorem lst_newS (W : World) (L : List Bd) (t : TypeId) {b : Nat} (hb : b = W.heap.size) : Lst (W.alloc (.cells ⟨flat L⟩ t)) (.slice (some ⟨b, 0, none⟩) L.length L.length) L := by
 subst hb
 refine .inr ⟨_, 0, _, rfl, fun k y hy i hi => ?_⟩
 rw [Nat.zero_add, World.cell?_alloc_at _ _ _ _ rfl, ← flat_get L k y hy i hi]
 simp
theorem two_at {w : World} {v : Value} {x y : Bd} (h : Lst w v [x, y]) : ∃ g off c, v = .slice (some ⟨g, off, none⟩) 2 c ∧ (∀ i, i < 10 → w.cell? ⟨g, off + i, none⟩ = (vals x)[i]?) ∧ ∀ i, i < 10 → w.cell? ⟨g, off + 10 + i, none⟩ = (vals y)[i]? := by
 obtain ⟨b, c, rfl⟩ := h.shape
 obtain ⟨g, off, rfl, q⟩ := h.at_ (k := 0) rfl
 obtain ⟨_, _, e, q2⟩ := h.at_ (k := 1) rfl
 injection e with e
 injection e with e1 e2
 subst e1 e2
 refine ⟨g, off, c, rfl, fun i hi => ?_, fun i hi => ?_⟩
 ·have := q i hi
  rw [Nat.zero_mul, Nat.add_zero] at this
  exact this
 ·have := q2 i hi
  rw [Nat.one_mul] at this
  exact this
theorem exT1_lst (W : World) (b : Nat) (hb : b = W.heap.size) : Lst (W.alloc (.cells #[.int .u32 0, .int .i32 65536, .int .i32 0, .int .i32 0, .int .i32 65536, .int .i32 0, .int .i32 0, .int .i32 0, .int .i32 0, .int .i32 0] 40)) (.slice (some ⟨b, 0, none⟩) 1 1) [exT1] := lst_newS W [exT1] _ hb
theorem exT2_lst (W : World) (b : Nat) (hb : b = W.heap.size) : Lst (W.alloc (.cells #[.int .u32 1, .int .i32 65536, .int .i32 0, .int .i32 0, .int .i32 65536, .int .i32 0, .int .i32 0, .int .i32 0, .int .i32 65536, .int .i32 0, .int .u32 2, .int .i32 65536, .int .i32 0, .int .i32 0, .int .i32 0, .int .i32 0, .int .i32 131071, .int .i32 0, .int .i32 0, .int .i32 0] 40)) (.slice (some ⟨b, 0, none⟩) 2 2) [exTa, exTb] := lst_newS W [exTa, exTb] _ hb
theorem stp_awake (O : TOps) : TAwake := fun w F0 => by
 have H1 := Lib.hid (fun v w f h => (show Calls Tryz.prog 10 #[v] w fun e w' => ∃ v', e = .returned (.tuple #[v', .agg #[.int .i64 0, .int .i64 0, .bool false]]) ∧ Lst w' v' [exT1s] ∧ Kep w.heap.size w w' from by
  refine (O.stp v [exT1] w f h exT1_vw).mono fun e w' ⟨v', n, h1, ⟨h2, h3, h4, _⟩, h5⟩ => ?_
  rw [show consL [exT1] = [] from rfl, exT1_cl] at h1
  rw [show consL [exT1] = [] from rfl] at h3
  have q : n = 0 := by simp at h3 h4; omega
  subst q
  exact ⟨v', h1, by rw [exT1_stp] at h2; exact h2, h5⟩))
 have H2 := Lib.hid (fun v w f h => (show Calls Tryz.prog 10 #[v] w fun e w' => ∃ v', e = .returned (.tuple #[v', .agg #[.int .i64 1, .int .i64 1, .bool false]]) ∧ Lst w' v' [exTas, exTb] ∧ Kep w.heap.size w w' from by
  refine (O.stp v [exTa, exTb] w f h exT2_vw).mono fun e w' ⟨v', n, h1, ⟨h2, h3, h4, _⟩, h5⟩ => ?_
  rw [exT2_con, exT2_cl] at h1
  rw [exT2_con] at h3
  have q : n = 1 := by simp at h3 h4; omega
  subst q
  exact ⟨v', h1, by rw [exT2_stp] at h2; exact h2, h5⟩))
 have H3 := Lib.hid (fun v w f h => (show Calls Tryz.prog 13 #[v, .int .i64 2] w fun e w' => ∃ v' t, e = .returned (.tuple #[v', .agg #[.int .i64 t, .int .i64 0, .bool false]]) ∧ Lst w' v' [exT1n] ∧ Kep w.heap.size w w' from by
  refine (O.sts v [exT1] 2 w f h exT1_vw (by decide)).mono fun e w' ⟨v', n, h1, ⟨h2, h3, h4⟩, h5⟩ => ?_
  rw [show (2 : Int).toNat = 2 from rfl, exT1_nc, exT1_nt] at h1
  rw [show (2 : Int).toNat = 2 from rfl, exT1_n] at h2
  exact ⟨v', n, h1, h2, h5⟩))
 have H4 := Lib.hid (fun w => (show Calls Tryz.prog 17 #[.agg #[.int .u32 0, .int .i32 65536, .int .i32 0, .int .i32 0, .int .i32 0, .int .i32 0, .int .i32 0, .int .i32 0, .int .i32 0, .int .i32 0]] w fun e w' => e = .returned (.agg #[.int .u32 0, .int .i32 65536, .int .i32 0, .int .i32 0, .int .i32 0, .int .i32 0, .int .i32 0, .int .i32 0, .int .i32 0, .int .i32 0]) ∧ Kep w.heap.size w w' from by
  have := O.fre (x := exT0) (by decide) (by decide) w
  rw [exT0_fr] at this
  exact this))
 go_enter Tryz.func9, Tryz.ntmps9
 go_upto_region 4 with (first
  | ((with_reducible refine (H1.out _ _ (F0.kep (kep_more (Kep.refl _ _) _)) (exT1_lst _ _ (by first | rfl | simp))).mono ?_); rintro e w2 ⟨v2, rfl, l2, g2⟩
     have gg := kep_next (kep_more (Kep.refl _ _) _) g2
     obtain ⟨m, om, cm, rfl, hm⟩ := one_at l2
     have LM := Lib.hid hm
     clear hm l2)
  | ((with_reducible refine (H2.out _ _ (F0.kep (kep_more (kep_more gg _) _)) (exT2_lst _ _ (by first | rfl | simp))).mono ?_); rintro e w3 ⟨v3, rfl, l3, g3⟩
     have Z1 := zK g3 (b := w2.heap.size) (vs := [.int .i64 0, .int .i64 0, .bool false])
     have K3 := Lib.hid (kep_next (kep_more (kep_more (Kep.refl w2.heap.size w2) _) _) g3)
     replace gg := kep_next gg K3.out
     obtain ⟨q, oq, cq, rfl, hq⟩ := two_at l3
     have LQ := Lib.hid hq
     clear hq l3)
  | ((with_reducible refine (H3.out _ _ (F0.kep (kep_more (kep_more gg _) _)) (exT1_lst _ _ (by first | rfl | simp))).mono ?_); rintro e w4 ⟨v4, t4, rfl, l4, g4⟩
     have Z2 := zK g4 (b := w3.heap.size) (vs := [.int .i64 1, .int .i64 1, .bool false])
     have K4 := Lib.hid (kep_next (kep_more (kep_more (Kep.refl w3.heap.size w3) _) _) g4)
     replace Z1 := za_kep Z1 K4.out
     replace gg := kep_next gg K4.out
     obtain ⟨p, op, cp, rfl, hp⟩ := one_at l4
     have LP := Lib.hid hp
     clear hp l4))
 generalize hW : World.alloc w4 _ = W5
 have k5 : Kep w4.heap.size w4 W5 := by rw [← hW]; exact kep_more (Kep.refl _ _) _
 clear hW
 replace Z1 := za_kep Z1 k5
 replace Z2 := za_kep Z2 k5
 have m6 : W5.cell? ⟨m, om + 6, none⟩ = some (.int .i32 0) := k5.all (K4.out.all (K3.out.all (LM.out 6 (by decide))))
 have m7 : W5.cell? ⟨m, om + 7, none⟩ = some (.int .i32 (-16)) := k5.all (K4.out.all (K3.out.all (LM.out 7 (by decide))))
 have m8 : W5.cell? ⟨m, om + 8, none⟩ = some (.int .i32 0) := k5.all (K4.out.all (K3.out.all (LM.out 8 (by decide))))
 have m9 : W5.cell? ⟨m, om + 9, none⟩ = some (.int .i32 (-1024)) := k5.all (K4.out.all (K3.out.all (LM.out 9 (by decide))))
 have q8 : W5.cell? ⟨q, oq + 8, none⟩ = some (.int .i32 0) := k5.all (K4.out.all (LQ.out.1 8 (by decide)))
 have q9 : W5.cell? ⟨q, oq + 9, none⟩ = some (.int .i32 (-1024)) := k5.all (K4.out.all (LQ.out.1 9 (by decide)))
 have r8 : W5.cell? ⟨q, oq + 10 + 8, none⟩ = some (.int .i32 0) := k5.all (K4.out.all (LQ.out.2 8 (by decide)))
 have r9 : W5.cell? ⟨q, oq + 10 + 9, none⟩ = some (.int .i32 0) := k5.all (K4.out.all (LQ.out.2 9 (by decide)))
 have p6 : W5.cell? ⟨p, op + 6, none⟩ = some (.int .i32 0) := k5.all (LP.out 6 (by decide))
 have p7 : W5.cell? ⟨p, op + 7, none⟩ = some (.int .i32 (-48)) := k5.all (LP.out 7 (by decide))
 replace gg := kep_next gg k5
 clear k5
 go_wp2_with ((with_reducible refine (H4.out _).mono ?_); rintro e w6 ⟨rfl, g6⟩; replace gg := kep_next gg g6)
 go_ret
 exact ⟨rfl, gg⟩
end Go.Proofs.YtaknmlohnifcdaaGreatDoor
