import Derived.Test.YtaknmlohnifcdaaGreatDoorJ19MCtsMath
import Derived.Test.YtaknmlohnifcdaaGreatDoorJ20MCorMath
import Derived.Test.YtaknmlohnifcdaaGreatDoorJ14MViewMath
import Derived.Test.YtaknmlohnifcdaaGreatDoorJ02MSeq
import Derived.Deep.DeepCutAuto
import Derived.Deep.QuietTactic
import Derived.BigQuiet
import Derived.Test.YtaknmlohnifcdaaGreatDoorJ21MCorRef1
set_option maxHeartbeats 8000000
set_option maxRecDepth 100000
namespace Go.Proofs.YtaknmlohnifcdaaGreatDoor
open Go.RowKit Go.Lib
theorem info_con : (Tryz.prog.info? 77).map (fun i => (i.zero, i.size, i.bytes)) = some (some (.agg #[.int .u32 0, .int .u32 0, .int .i32 0, .int .i32 0, .int .i32 0]), 5, 20) := by kernel_rfl
theorem lowB_lt {x y : Bd} (h : x.k < y.k) : lowB x y = x ∧ higB x y = y := by
 unfold lowB higB
 rw [if_neg (by omega), if_neg (by omega)]
 exact ⟨rfl, rfl⟩
abbrev RKa (L : List Bd) : Prop := ∀ v w, Lst w v L → Calls Tryz.prog 24 #[v] w fun e w' => ∃ v', e = .returned v' ∧ Sq ctv 5 w' v' (consL L) ∧ Kep w.heap.size w w'
theorem rka (L : List Bd) (hm : L.length ≤ 40) (hA : Asc L) (HV : Hid (∀ x ∈ L, okC x)) : RKa L := fun v w h => by
 obtain ⟨base, cap, rfl⟩ := h.shape
 have HC := Lib.hid (fun (k : Nat) (x : Bd) (hx : L[k]? = some x) => h.at_ hx)
 have HPM := Lib.hid (cons_max hm)
 have HA := Lib.hid hA
 clear h hA
 generalize hl : L.length = len at *
 have HN := Lib.hid hl
 clear hl
 go_enter Tryz.func24, Tryz.ntmps24
 go_wp2_with fail
 go_loopw [3, 4] (fun out i wr => ∃ k : Nat, k ≤ len ∧ i = .int .i64 k ∧ Hid (∃ P, P ++ consL (L.drop k) = consL L ∧ wr.ownsRow w.heap.size 77 5 out P.length (P.flatMap ctv) ∧ Kep w.heap.size w wr)) (fun _ i _ => len - (RowKit.intOf i).toNat)
 case atStart => exact ⟨0, by omega, rfl, Lib.hid ⟨[], by simp, World.ownsRow_nil _ _ _ _, Kep.refl _ _⟩⟩
 case round =>
  obtain ⟨k, hk, rfl, HP⟩ := hrel
  by_cases hlt : k < len
  ·have hb : L[k]? = some (L[k]'(by rw [HN.out]; exact hlt)) := List.getElem?_eq_getElem _
   generalize L[k]'(by rw [HN.out]; exact hlt) = x at hb
   obtain ⟨gl, off, rfl, qx⟩ := HC.out k x hb
   have HQX := Lib.hid qx
   have HX := Lib.hid hb
   clear hb qx
   go_wp2_with fail
   go_loopw [3, 5] (fun out j wr => ∃ l : Nat, k < l ∧ l ≤ len ∧ j = .int .i64 l ∧ Hid (∃ P, P ++ (conO x (L.drop l) ++ consL (L.drop (k + 1))) = consL L ∧ wr.ownsRow w.heap.size 77 5 out P.length (P.flatMap ctv) ∧ Kep w.heap.size w wr)) (fun _ j _ => len - (RowKit.intOf j).toNat)
   case atStart => exact ⟨k + 1, by omega, by omega, by go_num, Lib.hid (by
    obtain ⟨P, h1, h2, h3⟩ := HP.out
    exact ⟨P, by rw [← cons_at HX.out]; exact h1, h2, h3⟩)⟩
   case round =>
    obtain ⟨l, hkl, hl, rfl, HR⟩ := hrel
    by_cases hlt2 : l < len
    ·have hb : L[l]? = some (L[l]'(by rw [HN.out]; exact hlt2)) := List.getElem?_eq_getElem _
     generalize L[l]'(by rw [HN.out]; exact hlt2) = y at hb
     obtain ⟨_, _, e0, qy⟩ := HC.out l y hb
     injection e0 with e0
     injection e0 with e1 e2
     subst e1 e2
     have HQY := Lib.hid qy
     have RO := Lib.hid (kro_lt (HV.out x (List.mem_of_getElem? HX.out)) (HV.out y (List.mem_of_getElem? hb)) (asc_lt HA.out HX.out hb hkl))
     have HCV : Hid (tchB x y = true → conV x y = conC x y) := Lib.hid (fun t => by unfold conV; rw [if_pos t])
     obtain ⟨P, hp, ho, gg⟩ := HR.out
     rw [conO_at hb] at hp
     generalize hz : tchB x y = z at *
     generalize hv : conV x y = v at *
     have HO := Lib.hid ho
     have HPE := Lib.hid hp
     have hpl : P.length ≤ 780 := by have := HPM.out; rw [← hp, List.length_append] at this; omega
     have hgl : gl < w.heap.size := World.block_lt_of_cell? _ _ (HQX.out 0 (by decide))
     have hgw := gg.size
     have HG := Lib.hid gg
     clear hb qy hz hv HR hp ho
     have s0 : wr.cell? ⟨gl, off + k * 10, none⟩ = some (.int .u32 x.k) := HG.out.all (HQX.out 0 (by decide))
     have s1 : wr.cell? ⟨gl, off + k * 10 + 1, none⟩ = some (.int .i32 x.r) := HG.out.all (HQX.out 1 (by decide))
     have s2 : wr.cell? ⟨gl, off + k * 10 + 2, none⟩ = some (.int .i32 x.ax) := HG.out.all (HQX.out 2 (by decide))
     have s3 : wr.cell? ⟨gl, off + k * 10 + 3, none⟩ = some (.int .i32 x.ay) := HG.out.all (HQX.out 3 (by decide))
     have s4 : wr.cell? ⟨gl, off + k * 10 + 4, none⟩ = some (.int .i32 x.m) := HG.out.all (HQX.out 4 (by decide))
     have s5 : wr.cell? ⟨gl, off + k * 10 + 5, none⟩ = some (.int .i32 x.o) := HG.out.all (HQX.out 5 (by decide))
     have s6 : wr.cell? ⟨gl, off + k * 10 + 6, none⟩ = some (.int .i32 x.px) := HG.out.all (HQX.out 6 (by decide))
     have s7 : wr.cell? ⟨gl, off + k * 10 + 7, none⟩ = some (.int .i32 x.py) := HG.out.all (HQX.out 7 (by decide))
     have s8 : wr.cell? ⟨gl, off + k * 10 + 8, none⟩ = some (.int .i32 x.vx) := HG.out.all (HQX.out 8 (by decide))
     have s9 : wr.cell? ⟨gl, off + k * 10 + 9, none⟩ = some (.int .i32 x.vy) := HG.out.all (HQX.out 9 (by decide))
     have t0 : wr.cell? ⟨gl, off + l * 10, none⟩ = some (.int .u32 y.k) := HG.out.all (HQY.out 0 (by decide))
     have t1 : wr.cell? ⟨gl, off + l * 10 + 1, none⟩ = some (.int .i32 y.r) := HG.out.all (HQY.out 1 (by decide))
     have t2 : wr.cell? ⟨gl, off + l * 10 + 2, none⟩ = some (.int .i32 y.ax) := HG.out.all (HQY.out 2 (by decide))
     have t3 : wr.cell? ⟨gl, off + l * 10 + 3, none⟩ = some (.int .i32 y.ay) := HG.out.all (HQY.out 3 (by decide))
     have t4 : wr.cell? ⟨gl, off + l * 10 + 4, none⟩ = some (.int .i32 y.m) := HG.out.all (HQY.out 4 (by decide))
     have t5 : wr.cell? ⟨gl, off + l * 10 + 5, none⟩ = some (.int .i32 y.o) := HG.out.all (HQY.out 5 (by decide))
     have t6 : wr.cell? ⟨gl, off + l * 10 + 6, none⟩ = some (.int .i32 y.px) := HG.out.all (HQY.out 6 (by decide))
     have t7 : wr.cell? ⟨gl, off + l * 10 + 7, none⟩ = some (.int .i32 y.py) := HG.out.all (HQY.out 7 (by decide))
     have t8 : wr.cell? ⟨gl, off + l * 10 + 8, none⟩ = some (.int .i32 y.vx) := HG.out.all (HQY.out 8 (by decide))
     have t9 : wr.cell? ⟨gl, off + l * 10 + 9, none⟩ = some (.int .i32 y.vy) := HG.out.all (HQY.out 9 (by decide))
     clear gg
     have gg : Kep wr.heap.size wr wr := Kep.refl _ _
     go_wp2_with fail
     go_cut [6, 7] (fun s6 s7 wx => ∃ b, s6 = .pointer (some ⟨b, 0, none⟩) ∧ s7 = .bool z ∧ ZC wx b [.int .u32 v.lo, .int .u32 v.hi, .int .i32 v.nx, .int .i32 v.ny, .int .i32 v.dp] ∧ Kep wr.heap.size wr wx)
     case first =>
      refine wp_region_noPanic ?_
      refine wp_region_held_drew (S := (fun w' => w'.cell? ⟨gl, off + k * 10, none⟩ = some (.int .u32 x.k) ∧ w'.cell? ⟨gl, off + k * 10 + 1, none⟩ = some (.int .i32 x.r) ∧ w'.cell? ⟨gl, off + k * 10 + 2, none⟩ = some (.int .i32 x.ax) ∧ w'.cell? ⟨gl, off + k * 10 + 3, none⟩ = some (.int .i32 x.ay) ∧ w'.cell? ⟨gl, off + k * 10 + 4, none⟩ = some (.int .i32 x.m) ∧ w'.cell? ⟨gl, off + k * 10 + 5, none⟩ = some (.int .i32 x.o) ∧ w'.cell? ⟨gl, off + k * 10 + 6, none⟩ = some (.int .i32 x.px) ∧ w'.cell? ⟨gl, off + k * 10 + 7, none⟩ = some (.int .i32 x.py) ∧ w'.cell? ⟨gl, off + k * 10 + 8, none⟩ = some (.int .i32 x.vx) ∧ w'.cell? ⟨gl, off + k * 10 + 9, none⟩ = some (.int .i32 x.vy) ∧ w'.cell? ⟨gl, off + l * 10, none⟩ = some (.int .u32 y.k) ∧ w'.cell? ⟨gl, off + l * 10 + 1, none⟩ = some (.int .i32 y.r) ∧ w'.cell? ⟨gl, off + l * 10 + 2, none⟩ = some (.int .i32 y.ax) ∧ w'.cell? ⟨gl, off + l * 10 + 3, none⟩ = some (.int .i32 y.ay) ∧ w'.cell? ⟨gl, off + l * 10 + 4, none⟩ = some (.int .i32 y.m) ∧ w'.cell? ⟨gl, off + l * 10 + 5, none⟩ = some (.int .i32 y.o) ∧ w'.cell? ⟨gl, off + l * 10 + 6, none⟩ = some (.int .i32 y.px) ∧ w'.cell? ⟨gl, off + l * 10 + 7, none⟩ = some (.int .i32 y.py) ∧ w'.cell? ⟨gl, off + l * 10 + 8, none⟩ = some (.int .i32 y.vx) ∧ w'.cell? ⟨gl, off + l * 10 + 9, none⟩ = some (.int .i32 y.vy) ∧ Kep wr.heap.size wr w')) (by kernel_rfl) (⟨by rw [World.cell?_drew]; exact s0, by rw [World.cell?_drew]; exact s1, by rw [World.cell?_drew]; exact s2, by rw [World.cell?_drew]; exact s3, by rw [World.cell?_drew]; exact s4, by rw [World.cell?_drew]; exact s5, by rw [World.cell?_drew]; exact s6, by rw [World.cell?_drew]; exact s7, by rw [World.cell?_drew]; exact s8, by rw [World.cell?_drew]; exact s9, by rw [World.cell?_drew]; exact t0, by rw [World.cell?_drew]; exact t1, by rw [World.cell?_drew]; exact t2, by rw [World.cell?_drew]; exact t3, by rw [World.cell?_drew]; exact t4, by rw [World.cell?_drew]; exact t5, by rw [World.cell?_drew]; exact t6, by rw [World.cell?_drew]; exact t7, by rw [World.cell?_drew]; exact t8, by rw [World.cell?_drew]; exact t9, kep_drew gg⟩) (fun hH => ?_)
      refine sT 0 hH ?_
      refine sT 1 hH ?_
      refine sT 2 hH ?_
      refine sT 3 hH ?_
      refine sT 4 hH ?_
      refine sT 5 hH ?_
      refine sT 6 hH ?_
      refine sN 7 hH ?_
      refine wpAnyH_ready (rs := [8, 12]) (by kernel_rfl) (by simp) ?_
      refine AllReadyH.cons (o := ⟨some 31, .call { callee := .value (.func 42), args := #[.tmp 26, .tmp 30], argTypes := #[40, 40] }, _, _, _, none⟩) rfl (fun K hK => ?_) (AllReadyH.cons (o := ⟨some 6, .alloc 77, _, _, _, none⟩) rfl (fun K hK => ?_) AllReadyH.nil)
      ·
       go_simp
       (with_reducible refine (RO.out _).mono ?_); rintro e v8_1 ⟨rfl, g⟩
       refine hK.out _ _ (by (try dsimp only); (go_split_ands; and_intros <;> first | exact g.all (by assumption) | exact kep_next (by assumption) g)) (fun hH2 => ?_)
       clear hK K hH; have hH := hH2; clear hH2
       refine sT 9 hH ?_
       refine sT 10 hH ?_
       refine sN 11 hH ?_
       refine sC 12 (fun K hK => ?_)
       go_simp
       have z1 : ZC (World.alloc (v8_1) (.cells #[.int .u32 0, .int .u32 0, .int .i32 0, .int .i32 0, .int .i32 0] 77)) (v8_1).heap.size [.int .u32 0, .int .u32 0, .int .i32 0, .int .i32 0, .int .i32 0] := zc_new _ _ _
       have z1b : wr.heap.size ≤ (v8_1).heap.size := by obtain ⟨s0, s1, s2, s3, s4, s5, s6, s7, s8, s9, t0, t1, t2, t3, t4, t5, t6, t7, t8, t9, gg⟩ := id hH; exact gg.size
       refine hK.out _ _ (by (try dsimp only); (go_split_ands; exact ⟨Kep.all (kep_more (Kep.refl _ _) _) (by assumption), Kep.all (kep_more (Kep.refl _ _) _) (by assumption), Kep.all (kep_more (Kep.refl _ _) _) (by assumption), Kep.all (kep_more (Kep.refl _ _) _) (by assumption), Kep.all (kep_more (Kep.refl _ _) _) (by assumption), Kep.all (kep_more (Kep.refl _ _) _) (by assumption), Kep.all (kep_more (Kep.refl _ _) _) (by assumption), Kep.all (kep_more (Kep.refl _ _) _) (by assumption), Kep.all (kep_more (Kep.refl _ _) _) (by assumption), Kep.all (kep_more (Kep.refl _ _) _) (by assumption), Kep.all (kep_more (Kep.refl _ _) _) (by assumption), Kep.all (kep_more (Kep.refl _ _) _) (by assumption), Kep.all (kep_more (Kep.refl _ _) _) (by assumption), Kep.all (kep_more (Kep.refl _ _) _) (by assumption), Kep.all (kep_more (Kep.refl _ _) _) (by assumption), Kep.all (kep_more (Kep.refl _ _) _) (by assumption), Kep.all (kep_more (Kep.refl _ _) _) (by assumption), Kep.all (kep_more (Kep.refl _ _) _) (by assumption), Kep.all (kep_more (Kep.refl _ _) _) (by assumption), Kep.all (kep_more (Kep.refl _ _) _) (by assumption), kep_more (by assumption) _⟩)) (fun hH2 => ?_)
       try simp only [World.size_drew] at z1 z1b
       have hH_z1 := hH
       clear hK K hH; have hH := hH2; clear hH2
       try simp only [Act.put, List.setIfInBounds_toArray, List.set_cons_zero, List.set_cons_succ]
       refine sC 13 (fun K hK => ?_)
       obtain ⟨s0, s1, s2, s3, s4, s5, s6, s7, s8, s9, t0, t1, t2, t3, t4, t5, t6, t7, t8, t9, gg⟩ := id hH
       have z1q0 := z1.i (i := 0) rfl; have z1f0 := z1.frz 0
       have z1q1 := z1.i (i := 1) rfl; have z1f1 := z1.frz 1
       have z1q2 := z1.i (i := 2) rfl; have z1f2 := z1.frz 2
       have z1q3 := z1.i (i := 3) rfl; have z1f3 := z1.frz 3
       have z1q4 := z1.i (i := 4) rfl; have z1f4 := z1.frz 4
       go_simp
       have z1' : ZC (World.alloc (v8_1) (.cells #[.int .u32 v.lo, .int .u32 v.hi, .int .i32 v.nx, .int .i32 v.ny, .int .i32 v.dp] 77)) (v8_1).heap.size [.int .u32 v.lo, .int .u32 v.hi, .int .i32 v.nx, .int .i32 v.ny, .int .i32 v.dp] := zc_new _ _ _
       try simp only [World.size_drew] at z1'
       clear z1; have z1 := z1'; clear z1'
       refine hK.out _ _ (by (try dsimp only); obtain ⟨s0, s1, s2, s3, s4, s5, s6, s7, s8, s9, t0, t1, t2, t3, t4, t5, t6, t7, t8, t9, gg⟩ := id hH_z1; exact ⟨Kep.all (kep_more (Kep.refl _ _) _) s0, Kep.all (kep_more (Kep.refl _ _) _) s1, Kep.all (kep_more (Kep.refl _ _) _) s2, Kep.all (kep_more (Kep.refl _ _) _) s3, Kep.all (kep_more (Kep.refl _ _) _) s4, Kep.all (kep_more (Kep.refl _ _) _) s5, Kep.all (kep_more (Kep.refl _ _) _) s6, Kep.all (kep_more (Kep.refl _ _) _) s7, Kep.all (kep_more (Kep.refl _ _) _) s8, Kep.all (kep_more (Kep.refl _ _) _) s9, Kep.all (kep_more (Kep.refl _ _) _) t0, Kep.all (kep_more (Kep.refl _ _) _) t1, Kep.all (kep_more (Kep.refl _ _) _) t2, Kep.all (kep_more (Kep.refl _ _) _) t3, Kep.all (kep_more (Kep.refl _ _) _) t4, Kep.all (kep_more (Kep.refl _ _) _) t5, Kep.all (kep_more (Kep.refl _ _) _) t6, Kep.all (kep_more (Kep.refl _ _) _) t7, Kep.all (kep_more (Kep.refl _ _) _) t8, Kep.all (kep_more (Kep.refl _ _) _) t9, kep_more gg _⟩) (fun hH2 => ?_)
       clear hH_z1
       clear hK K hH s0 s1 s2 s3 s4 s5 s6 s7 s8 s9 t0 t1 t2 t3 t4 t5 t6 t7 t8 t9 gg z1q0 z1f0 z1q1 z1f1 z1q2 z1f2 z1q3 z1f3 z1q4 z1f4; have hH := hH2; clear hH2
       refine sN 14 hH ?_
       refine sE ?_
       obtain ⟨s0, s1, s2, s3, s4, s5, s6, s7, s8, s9, t0, t1, t2, t3, t4, t5, t6, t7, t8, t9, gg⟩ := hH
       go_wp2_with fail
       go_meet
       exact ⟨_, rfl, rfl, z1, gg⟩
      ·
       go_simp
       have z1 : ZC (World.alloc (wr.drew) (.cells #[.int .u32 0, .int .u32 0, .int .i32 0, .int .i32 0, .int .i32 0] 77)) (wr.drew).heap.size [.int .u32 0, .int .u32 0, .int .i32 0, .int .i32 0, .int .i32 0] := zc_new _ _ _
       have z1b : wr.heap.size ≤ (wr.drew).heap.size := by obtain ⟨s0, s1, s2, s3, s4, s5, s6, s7, s8, s9, t0, t1, t2, t3, t4, t5, t6, t7, t8, t9, gg⟩ := id hH; exact gg.size
       refine hK.out _ _ (by (try dsimp only); (go_split_ands; exact ⟨Kep.all (kep_more (Kep.refl _ _) _) (by assumption), Kep.all (kep_more (Kep.refl _ _) _) (by assumption), Kep.all (kep_more (Kep.refl _ _) _) (by assumption), Kep.all (kep_more (Kep.refl _ _) _) (by assumption), Kep.all (kep_more (Kep.refl _ _) _) (by assumption), Kep.all (kep_more (Kep.refl _ _) _) (by assumption), Kep.all (kep_more (Kep.refl _ _) _) (by assumption), Kep.all (kep_more (Kep.refl _ _) _) (by assumption), Kep.all (kep_more (Kep.refl _ _) _) (by assumption), Kep.all (kep_more (Kep.refl _ _) _) (by assumption), Kep.all (kep_more (Kep.refl _ _) _) (by assumption), Kep.all (kep_more (Kep.refl _ _) _) (by assumption), Kep.all (kep_more (Kep.refl _ _) _) (by assumption), Kep.all (kep_more (Kep.refl _ _) _) (by assumption), Kep.all (kep_more (Kep.refl _ _) _) (by assumption), Kep.all (kep_more (Kep.refl _ _) _) (by assumption), Kep.all (kep_more (Kep.refl _ _) _) (by assumption), Kep.all (kep_more (Kep.refl _ _) _) (by assumption), Kep.all (kep_more (Kep.refl _ _) _) (by assumption), Kep.all (kep_more (Kep.refl _ _) _) (by assumption), kep_more (by assumption) _⟩)) (fun hH2 => ?_)
       try simp only [World.size_drew] at z1 z1b
       have hH_z1 := hH
       clear hK K hH; have hH := hH2; clear hH2
       try simp only [Act.put, List.setIfInBounds_toArray, List.set_cons_zero, List.set_cons_succ]
       refine sC 8 (fun K hK => ?_)
       go_simp
       (with_reducible refine (RO.out _).mono ?_); rintro e v8_2 ⟨rfl, g⟩
       replace z1 := z1.kep g
       refine hK.out _ _ (by (try dsimp only); (go_split_ands; and_intros <;> first | exact g.all (by assumption) | exact kep_next (by assumption) g)) (fun hH2 => ?_)
       clear hK K hH; have hH := hH2; clear hH2
       refine sT 9 hH ?_
       refine sT 10 hH ?_
       refine sN 11 hH ?_
       refine sC 13 (fun K hK => ?_)
       obtain ⟨s0, s1, s2, s3, s4, s5, s6, s7, s8, s9, t0, t1, t2, t3, t4, t5, t6, t7, t8, t9, gg⟩ := id hH
       have z1q0 := z1.i (i := 0) rfl; have z1f0 := z1.frz 0
       have z1q1 := z1.i (i := 1) rfl; have z1f1 := z1.frz 1
       have z1q2 := z1.i (i := 2) rfl; have z1f2 := z1.frz 2
       have z1q3 := z1.i (i := 3) rfl; have z1f3 := z1.frz 3
       have z1q4 := z1.i (i := 4) rfl; have z1f4 := z1.frz 4
       go_simp
       have hst : (fun w' => w'.cell? ⟨gl, off + k * 10, none⟩ = some (.int .u32 x.k) ∧ w'.cell? ⟨gl, off + k * 10 + 1, none⟩ = some (.int .i32 x.r) ∧ w'.cell? ⟨gl, off + k * 10 + 2, none⟩ = some (.int .i32 x.ax) ∧ w'.cell? ⟨gl, off + k * 10 + 3, none⟩ = some (.int .i32 x.ay) ∧ w'.cell? ⟨gl, off + k * 10 + 4, none⟩ = some (.int .i32 x.m) ∧ w'.cell? ⟨gl, off + k * 10 + 5, none⟩ = some (.int .i32 x.o) ∧ w'.cell? ⟨gl, off + k * 10 + 6, none⟩ = some (.int .i32 x.px) ∧ w'.cell? ⟨gl, off + k * 10 + 7, none⟩ = some (.int .i32 x.py) ∧ w'.cell? ⟨gl, off + k * 10 + 8, none⟩ = some (.int .i32 x.vx) ∧ w'.cell? ⟨gl, off + k * 10 + 9, none⟩ = some (.int .i32 x.vy) ∧ w'.cell? ⟨gl, off + l * 10, none⟩ = some (.int .u32 y.k) ∧ w'.cell? ⟨gl, off + l * 10 + 1, none⟩ = some (.int .i32 y.r) ∧ w'.cell? ⟨gl, off + l * 10 + 2, none⟩ = some (.int .i32 y.ax) ∧ w'.cell? ⟨gl, off + l * 10 + 3, none⟩ = some (.int .i32 y.ay) ∧ w'.cell? ⟨gl, off + l * 10 + 4, none⟩ = some (.int .i32 y.m) ∧ w'.cell? ⟨gl, off + l * 10 + 5, none⟩ = some (.int .i32 y.o) ∧ w'.cell? ⟨gl, off + l * 10 + 6, none⟩ = some (.int .i32 y.px) ∧ w'.cell? ⟨gl, off + l * 10 + 7, none⟩ = some (.int .i32 y.py) ∧ w'.cell? ⟨gl, off + l * 10 + 8, none⟩ = some (.int .i32 y.vx) ∧ w'.cell? ⟨gl, off + l * 10 + 9, none⟩ = some (.int .i32 y.vy) ∧ Kep wr.heap.size wr w') (setAll (v8_2) ((wr).heap.size) 0 [.int .u32 v.lo, .int .u32 v.hi, .int .i32 v.nx, .int .i32 v.ny, .int .i32 v.dp]) := ⟨setAll_far _ _ _ _ (by first | omega | (simp; done) | (simp; omega)) s0, setAll_far _ _ _ _ (by first | omega | (simp; done) | (simp; omega)) s1, setAll_far _ _ _ _ (by first | omega | (simp; done) | (simp; omega)) s2, setAll_far _ _ _ _ (by first | omega | (simp; done) | (simp; omega)) s3, setAll_far _ _ _ _ (by first | omega | (simp; done) | (simp; omega)) s4, setAll_far _ _ _ _ (by first | omega | (simp; done) | (simp; omega)) s5, setAll_far _ _ _ _ (by first | omega | (simp; done) | (simp; omega)) s6, setAll_far _ _ _ _ (by first | omega | (simp; done) | (simp; omega)) s7, setAll_far _ _ _ _ (by first | omega | (simp; done) | (simp; omega)) s8, setAll_far _ _ _ _ (by first | omega | (simp; done) | (simp; omega)) s9, setAll_far _ _ _ _ (by first | omega | (simp; done) | (simp; omega)) t0, setAll_far _ _ _ _ (by first | omega | (simp; done) | (simp; omega)) t1, setAll_far _ _ _ _ (by first | omega | (simp; done) | (simp; omega)) t2, setAll_far _ _ _ _ (by first | omega | (simp; done) | (simp; omega)) t3, setAll_far _ _ _ _ (by first | omega | (simp; done) | (simp; omega)) t4, setAll_far _ _ _ _ (by first | omega | (simp; done) | (simp; omega)) t5, setAll_far _ _ _ _ (by first | omega | (simp; done) | (simp; omega)) t6, setAll_far _ _ _ _ (by first | omega | (simp; done) | (simp; omega)) t7, setAll_far _ _ _ _ (by first | omega | (simp; done) | (simp; omega)) t8, setAll_far _ _ _ _ (by first | omega | (simp; done) | (simp; omega)) t9, kep_setAll (by first | omega | (have := gg.size; simp at *; omega)) _ _ gg⟩
       replace z1 := z1.set [.int .u32 v.lo, .int .u32 v.hi, .int .i32 v.nx, .int .i32 v.ny, .int .i32 v.dp] (by simp)
       simp only [setAll, Nat.zero_add, Nat.reduceAdd] at hst z1
       refine hK.out _ _ hst (fun hH2 => ?_)
       clear hst
       clear hK K hH s0 s1 s2 s3 s4 s5 s6 s7 s8 s9 t0 t1 t2 t3 t4 t5 t6 t7 t8 t9 gg z1q0 z1f0 z1q1 z1f1 z1q2 z1f2 z1q3 z1f3 z1q4 z1f4; have hH := hH2; clear hH2
       refine sN 14 hH ?_
       refine sE ?_
       obtain ⟨s0, s1, s2, s3, s4, s5, s6, s7, s8, s9, t0, t1, t2, t3, t4, t5, t6, t7, t8, t9, gg⟩ := hH
       go_wp2_with fail
       go_meet
       exact ⟨_, rfl, rfl, z1, gg⟩
     case rest =>
      obtain ⟨b, rfl, rfl, zc, gc⟩ := hcut
      replace HO := Lib.hid (own_kep HO.out gc (Nat.le_refl _))
      replace gg := HG.out.trans (gc.mono hgw)
      cases z
      ·go_wp2_with fail
       go_roundw
       case rel => exact ⟨l + 1, by omega, by omega, by go_num, Lib.hid ⟨P, by have := HPE.out; simpa using this, HO.out, gg⟩⟩
       case measure => simp [RowKit.intOf]; omega
      ·rw [← HCV.out rfl] at HPE
       have y0 := zc.i (i := 0) rfl
       have y1 := zc.i (i := 1) rfl
       have y2 := zc.i (i := 2) rfl
       have y3 := zc.i (i := 3) rfl
       have y4 := zc.i (i := 4) rfl
       have hgs := gg.size
       clear zc
       go_wp2_with (first
        | (at_builtin; refine wpList_app ctv 5 ctv_len ctv_one rfl _ _ 50 rfl 77 _ 20 Tryz.underlying50 info_con rfl (by decide) w.heap.size _ _ P v rfl HO.out _ (by first | rfl | simp) rfl _ rfl (by unfold maxLen; omega) (by omega) hgs ?_; intro v3 w3 o3 k3))
       have HM : Hid (∃ P, P ++ (conO x (L.drop (l + 1)) ++ consL (L.drop (k + 1))) = consL L ∧ w3.ownsRow w.heap.size 77 5 v3 P.length (P.flatMap ctv) ∧ Kep w.heap.size w w3) := Lib.hid ⟨P ++ [v], by have := HPE.out; simpa using this, o3, gg.trans k3⟩
       clear o3 k3
       go_roundw
       case rel => exact ⟨l + 1, by omega, by omega, by go_num, HM⟩
       case measure => simp [RowKit.intOf]; omega
    ·obtain rfl : l = len := by omega
     go_wp2_with fail
     go_roundw
     case rel => exact ⟨k + 1, by omega, by go_num, Lib.hid (by
      obtain ⟨P, h1, h2, h3⟩ := HR.out
      rw [List.drop_of_length_le (by rw [HN.out]; omega)] at h1
      exact ⟨P, h1, h2, h3⟩)⟩
     case measure => simp [RowKit.intOf]; omega
  ·obtain rfl : k = len := by omega
   go_wp2_with fail
   go_ret
   obtain ⟨P, h1, h2, h3⟩ := HP.out
   rw [List.drop_of_length_le (by rw [HN.out]; omega)] at h1
   rw [show P = consL L by rw [← h1]; simp [consL]] at h2
   exact ⟨_, rfl, own_sq ctv_len h2, h3⟩
abbrev RMv (L : List Bd) (D : List Sh) : Prop := ∀ v s w, Lst w v L → Sq shv 2 w s D → Calls Tryz.prog 27 #[v, s] w fun e w' => ∃ v', e = .returned (.tuple #[v', .bool ((mtA L D).any id)]) ∧ Lst w' v' (mtL L D) ∧ Kep w.heap.size w w'
theorem rim (L : List Bd) (hm : L.length ≤ 1000) (HK : Hid (∀ x ∈ L, okI x)) (D : List Sh) (hDL : D.length = L.length) (HD : Hid (∀ s ∈ D, Sin s)) : RMv L D := fun v sv w h hs => by
 obtain ⟨ba, ca, rfl⟩ := h.shape
 have HLA := Lib.hid (fun (k : Nat) (y : Bd) (hy : L[k]? = some y) => h.at_ hy)
 obtain ⟨bc, cc, rfl, hc⟩ := hs
 have HC := Lib.hid hc
 have HLN := Lib.hid (fun (k : Nat) (hk : k ≤ L.length) => (show ((mtL L D).take k).length = k by rw [List.length_take, mtL_len hDL]; omega))
 have HML := Lib.hid (mtL_len hDL)
 have HMA := Lib.hid (mtA_len hDL)
 clear h hc
 rw [hDL]
 generalize hnl : L.length = nl at *
 have HN := Lib.hid hnl
 have HDN := Lib.hid hDL
 clear hnl hDL
 go_enter Tryz.func27, Tryz.ntmps27
 go_wp2_with fail
 go_loopw [6, 7, 8] (fun out cl i wr => ∃ k : Nat, k ≤ nl ∧ i = .int .i64 k ∧ (∃ z : Bool, cl = .bool z ∧ Hid (((mtA L D).take k).any id = z)) ∧ Hid (wr.ownsRow w.heap.size 40 10 out ((mtL L D).take k).length (((mtL L D).take k).flatMap vals) ∧ Kep w.heap.size w wr)) (fun _ _ i _ => nl - (RowKit.intOf i).toNat)
 case atStart => exact ⟨0, by omega, rfl, ⟨false, rfl, Lib.hid (by simp)⟩, Lib.hid ⟨World.ownsRow_nil _ _ _ _, Kep.refl _ _⟩⟩
 case round =>
  obtain ⟨k, hk, rfl, ⟨z, rfl, HZ⟩, HP⟩ := hrel
  by_cases hlt : k < nl
  ·have hb : L[k]? = some (L[k]'(by rw [HN.out]; exact hlt)) := List.getElem?_eq_getElem _
   generalize L[k]'(by rw [HN.out]; exact hlt) = x at hb
   have hd : D[k]? = some (D[k]'(by rw [HDN.out]; exact hlt)) := List.getElem?_eq_getElem _
   generalize D[k]'(by rw [HDN.out]; exact hlt) = s at hd
   have gg := HP.out.2
   have HO := Lib.hid HP.out.1
   obtain ⟨gl, off, rfl, qx⟩ := HLA.out k x hb
   obtain ⟨gs, os, rfl, qs⟩ := HC.out k s hd
   have hok := HK.out x (List.mem_of_getElem? hb)
   have hv := vb_of hok
   have hp := pb_of hok
   have hsn := HD.out s (List.mem_of_getElem? hd)
   have hln := HLN.out k hk
   obtain ⟨ex, hex⟩ : ∃ t, t = mtX x s := ⟨_, rfl⟩
   obtain ⟨ey, hey⟩ : ∃ t, t = mtY x s := ⟨_, rfl⟩
   obtain ⟨lx, hlx⟩ : ∃ t, t = limW ex := ⟨_, rfl⟩
   obtain ⟨ly, hly⟩ : ∃ t, t = limW ey := ⟨_, rfl⟩
   obtain ⟨fx, hfx⟩ : ∃ t, t = x.vx / 64 := ⟨_, rfl⟩
   obtain ⟨fy, hfy⟩ : ∃ t, t = x.vy / 64 := ⟨_, rfl⟩
   obtain ⟨px, hpx⟩ : ∃ t, t = x.px + s.1 := ⟨_, rfl⟩
   obtain ⟨py, hpy⟩ : ∃ t, t = x.py + s.2 := ⟨_, rfl⟩
   have bx := mtX_bd hv hp hsn
   have b_y := mtY_bd hv hp hsn
   have bl1 := limW_bd ex
   have bl2 := limW_bd ey
   rw [← hlx] at bl1
   rw [← hly] at bl2
   rw [← hex, ← hpx, ← hfx] at bx
   rw [← hey, ← hpy, ← hfy] at b_y
   have x0 := hv.vx0; have x1 := hv.vx1; have x2 := hv.vy0; have x3 := hv.vy1; have x4 := hp.px0; have x5 := hp.px1; have x6 := hp.py0; have x7 := hp.py1
   have ax : px + fx = ex := by rw [hpx, hfx, hex]; rfl
   have ay : py + fy = ey := by rw [hpy, hfy, hey]; rfl
   have FX := Lib.hid (fun w => (show Calls Tryz.prog 45 #[.int .i64 x.vx, .int .i64 64] w fun e w' => e = .returned (.int .i64 fx) ∧ w = w' by rw [hfx]; exact reffl_any x.vx 64 (by unfold I64; omega) (by decide) (by decide) w))
   have FY := Lib.hid (fun w => (show Calls Tryz.prog 45 #[.int .i64 x.vy, .int .i64 64] w fun e w' => e = .returned (.int .i64 fy) ∧ w = w' by rw [hfy]; exact reffl_any x.vy 64 (by unfold I64; omega) (by decide) (by decide) w))
   have LX := Lib.hid (fun w => (show Calls Tryz.prog 43 #[.int .i64 ex, .int .i64 1073741824] w fun e w' => e = .returned (.int .i64 lx) ∧ w = w' by rw [hlx]; exact reflim_any ex 1073741824 (by unfold I64; omega) (by decide) (by decide) w))
   have LY := Lib.hid (fun w => (show Calls Tryz.prog 43 #[.int .i64 ey, .int .i64 1073741824] w fun e w' => e = .returned (.int .i64 ly) ∧ w = w' by rw [hly]; exact reflim_any ey 1073741824 (by unfold I64; omega) (by decide) (by decide) w))
   have f1 : IntKind.i64.wrap x.vx = x.vx := by rw [IntKind.wrap_i64]; omega
   have f2 : IntKind.i64.wrap x.vy = x.vy := by rw [IntKind.wrap_i64]; omega
   have f3 : IntKind.i64.wrap x.px = x.px := by rw [IntKind.wrap_i64]; omega
   have f4 : IntKind.i64.wrap x.py = x.py := by rw [IntKind.wrap_i64]; omega
   have f5 : IntKind.i64.wrap (x.px + s.1) = px := by rw [IntKind.wrap_i64]; omega
   have f6 : IntKind.i64.wrap (x.py + s.2) = py := by rw [IntKind.wrap_i64]; omega
   have f7 : IntKind.i64.wrap (px + fx) = ex := by rw [IntKind.wrap_i64]; omega
   have f8 : IntKind.i64.wrap (py + fy) = ey := by rw [IntKind.wrap_i64]; omega
   have v5 : wrap64 (x.px + s.1) = px := by unfold wrap64; omega
   have v6 : wrap64 (x.py + s.2) = py := by unfold wrap64; omega
   have v7 : wrap64 (px + fx) = ex := by unfold wrap64; omega
   have v8 : wrap64 (py + fy) = ey := by unfold wrap64; omega
   have h1 : IntKind.i32.wrap lx = lx := by rw [IntKind.wrap_i32]; omega
   have h2 : IntKind.i32.wrap ly = ly := by rw [IntKind.wrap_i32]; omega
   have h3 : IntKind.i64.wrap lx = lx := by rw [IntKind.wrap_i64]; omega
   have h4 : IntKind.i64.wrap ly = ly := by rw [IntKind.wrap_i64]; omega
   have h5 : wrap32 lx = lx := by unfold wrap32; omega
   have h6 : wrap32 ly = ly := by unfold wrap32; omega
   have HTB : Hid ((mtL L D).take (k + 1) = (mtL L D).take k ++ [plB x lx ly]) := Lib.hid (by rw [List.take_add_one, mtL_at hb hd, hlx, hly, hex, hey]; rfl)
   obtain ⟨zx, hzx⟩ : ∃ z, (lx != ex) = z := ⟨_, rfl⟩
   obtain ⟨zy, hzy⟩ : ∃ z, (ly != ey) = z := ⟨_, rfl⟩
   have HTZ : Hid (((mtA L D).take (k + 1)).any id = (z || (zx || zy))) := Lib.hid (by
    rw [takeB (mtA_at hb hd), HZ.out]
    congr 1
    unfold mtC
    rw [← hex, ← hey, ← hlx, ← hly, ← hzx, ← hzy]
    congr 1 <;> rw [Bool.eq_iff_iff, decide_eq_true_iff, bne_iff_ne])
   have t0 : wr.cell? ⟨gs, os + k * 2, none⟩ = some (.int .i64 s.1) := gg.all (qs 0 _ rfl)
   have t1 : wr.cell? ⟨gs, os + k * 2 + 1, none⟩ = some (.int .i64 s.2) := gg.all (qs 1 _ rfl)
   have s0 : wr.cell? ⟨gl, off + k * 10, none⟩ = some (.int .u32 x.k) := gg.all (qx 0 (by decide))
   have s1 : wr.cell? ⟨gl, off + k * 10 + 1, none⟩ = some (.int .i32 x.r) := gg.all (qx 1 (by decide))
   have s2 : wr.cell? ⟨gl, off + k * 10 + 2, none⟩ = some (.int .i32 x.ax) := gg.all (qx 2 (by decide))
   have s3 : wr.cell? ⟨gl, off + k * 10 + 3, none⟩ = some (.int .i32 x.ay) := gg.all (qx 3 (by decide))
   have s4 : wr.cell? ⟨gl, off + k * 10 + 4, none⟩ = some (.int .i32 x.m) := gg.all (qx 4 (by decide))
   have s5 : wr.cell? ⟨gl, off + k * 10 + 5, none⟩ = some (.int .i32 x.o) := gg.all (qx 5 (by decide))
   have s6 : wr.cell? ⟨gl, off + k * 10 + 6, none⟩ = some (.int .i32 x.px) := gg.all (qx 6 (by decide))
   have s7 : wr.cell? ⟨gl, off + k * 10 + 7, none⟩ = some (.int .i32 x.py) := gg.all (qx 7 (by decide))
   have s8 : wr.cell? ⟨gl, off + k * 10 + 8, none⟩ = some (.int .i32 x.vx) := gg.all (qx 8 (by decide))
   have s9 : wr.cell? ⟨gl, off + k * 10 + 9, none⟩ = some (.int .i32 x.vy) := gg.all (qx 9 (by decide))
   clear hb hd hok hv hp hsn hex hey hlx hly hfx hfy hpx hpy bx b_y bl1 bl2 x0 x1 x2 x3 x4 x5 x6 x7 ax ay qx qs HP
   go_upto_region 7 with fail
   have hgs : gs < wr.heap.size := World.block_lt_of_cell? _ _ t0
   generalize hW : World.alloc wr _ = W6
   have kW : Kep wr.heap.size wr W6 := by rw [← hW]; exact kep_more (Kep.refl _ _) _
   have Zb : ZC W6 wr.heap.size [.int .u32 x.k, .int .i32 x.r, .int .i32 x.ax, .int .i32 x.ay, .int .i32 x.m, .int .i32 x.o, .int .i32 x.px, .int .i32 x.py, .int .i32 x.vx, .int .i32 x.vy] := by rw [← hW]; exact zc_new' _ _ _ rfl
   clear hW s0 s1 s2 s3 s4 s5 s6 s7 s8 s9
   replace t0 := kW.all t0
   replace t1 := kW.all t1
   have HG := Lib.hid gg
   have HKW := Lib.hid kW
   have hbb : gs ≠ wr.heap.size := by omega
   clear gg kW hgs
   obtain ⟨bb, hbq⟩ : ∃ b, b = wr.heap.size := ⟨_, rfl⟩
   rw [← hbq] at Zb hbb ⊢
   have HB := Lib.hid hbq
   clear hbq
   have b6 := Zb.i (i := 6) rfl
   have b7 := Zb.i (i := 7) rfl
   have b8 := Zb.i (i := 8) rfl
   have b9 := Zb.i (i := 9) rfl
   have HZ6 := Lib.hid Zb
   clear Zb
   have gg : Kep W6.heap.size W6 W6 := Kep.refl _ _
   refine wp_region_noPanic ?_
   refine wp_region_held_drew (S := (fun w' => w'.cell? ⟨bb, 6, none⟩ = some (.int .i32 x.px) ∧ w'.cell? ⟨bb, 7, none⟩ = some (.int .i32 x.py) ∧ w'.cell? ⟨bb, 8, none⟩ = some (.int .i32 x.vx) ∧ w'.cell? ⟨bb, 9, none⟩ = some (.int .i32 x.vy) ∧ w'.cell? ⟨gs, os + k * 2, none⟩ = some (.int .i64 s.1) ∧ w'.cell? ⟨gs, os + k * 2 + 1, none⟩ = some (.int .i64 s.2) ∧ Kep W6.heap.size W6 w')) (by kernel_rfl) (⟨by rw [World.cell?_drew]; exact b6, by rw [World.cell?_drew]; exact b7, by rw [World.cell?_drew]; exact b8, by rw [World.cell?_drew]; exact b9, by rw [World.cell?_drew]; exact t0, by rw [World.cell?_drew]; exact t1, kep_drew gg⟩) (fun hH => ?_)
   refine sT 0 hH ?_
   refine sT 1 hH ?_
   refine sT 2 hH ?_
   refine sN 3 hH ?_
   refine sT 4 hH ?_
   refine sT 5 hH ?_
   refine sT 6 hH ?_
   refine sN 7 hH ?_
   refine sT 8 hH ?_
   refine sT 9 hH ?_
   refine sT 10 hH ?_
   refine sN 11 hH ?_
   refine sT 12 hH ?_
   refine sN 13 hH ?_
   refine sC 14 (fun K hK => ?_)
   go_simp
   (with_reducible refine (FX.out _).mono ?_); rintro e v7_14 ⟨rfl, rfl⟩
   refine hK.out _ _ hH (fun hH2 => ?_)
   clear hK K hH; have hH := hH2; clear hH2
   refine sT 15 hH ?_
   refine sN 16 hH ?_
   refine sE ?_
   clear b6 b7 b8 b9 t0 t1 gg
   obtain ⟨b6, b7, b8, b9, t0, t1, gg⟩ := hH
   go_upto_region 8 with fail
   refine wp_region_noPanic ?_
   refine wp_region_held_drew (S := (fun w' => w'.cell? ⟨bb, 6, none⟩ = some (.int .i32 x.px) ∧ w'.cell? ⟨bb, 7, none⟩ = some (.int .i32 x.py) ∧ w'.cell? ⟨bb, 8, none⟩ = some (.int .i32 x.vx) ∧ w'.cell? ⟨bb, 9, none⟩ = some (.int .i32 x.vy) ∧ w'.cell? ⟨gs, os + k * 2, none⟩ = some (.int .i64 s.1) ∧ w'.cell? ⟨gs, os + k * 2 + 1, none⟩ = some (.int .i64 s.2) ∧ Kep W6.heap.size W6 w')) (by kernel_rfl) (⟨by rw [World.cell?_drew]; exact b6, by rw [World.cell?_drew]; exact b7, by rw [World.cell?_drew]; exact b8, by rw [World.cell?_drew]; exact b9, by rw [World.cell?_drew]; exact t0, by rw [World.cell?_drew]; exact t1, kep_drew gg⟩) (fun hH => ?_)
   refine sT 0 hH ?_
   refine sT 1 hH ?_
   refine sT 2 hH ?_
   refine sN 3 hH ?_
   refine sT 4 hH ?_
   refine sT 5 hH ?_
   refine sT 6 hH ?_
   refine sN 7 hH ?_
   refine sT 8 hH ?_
   refine sT 9 hH ?_
   refine sT 10 hH ?_
   refine sN 11 hH ?_
   refine sT 12 hH ?_
   refine sN 13 hH ?_
   refine sC 14 (fun K hK => ?_)
   go_simp
   (with_reducible refine (FY.out _).mono ?_); rintro e v8_14 ⟨rfl, rfl⟩
   refine hK.out _ _ hH (fun hH2 => ?_)
   clear hK K hH; have hH := hH2; clear hH2
   refine sT 15 hH ?_
   refine sN 16 hH ?_
   refine sE ?_
   clear b6 b7 b8 b9 t0 t1 gg
   obtain ⟨b6, b7, b8, b9, t0, t1, gg⟩ := hH
   generalize W6.drew.drew = W8 at *
   have z6 := HZ6.out.kep gg
   have g6 := z6.frz 6
   have g7 := z6.frz 7
   have hzl := z6.lt
   go_upto_region 10 with (first | ((with_reducible refine (LX.out _).mono ?_); rintro e w9 ⟨rfl, rfl⟩) | ((with_reducible refine (LY.out _).mono ?_); rintro e w9 ⟨rfl, rfl⟩))
   generalize hW : World.setCell _ _ _ = W9
   have z9 : ZC W9 bb [.int .u32 x.k, .int .i32 x.r, .int .i32 x.ax, .int .i32 x.ay, .int .i32 x.m, .int .i32 x.o, .int .i32 lx, .int .i32 ly, .int .i32 x.vx, .int .i32 x.vy] := by rw [← hW]; exact (z6.put (.int .i32 lx) (i := 6) (by simp)).put (.int .i32 ly) (i := 7) (by simp)
   have kk : Kep wr.heap.size wr W9 := by rw [← hW]; exact (((HKW.out.trans (gg.mono HKW.out.size)).setCell (by show wr.heap.size ≤ bb; rw [HB.out]; exact Nat.le_refl _) _).setCell (by show wr.heap.size ≤ bb; rw [HB.out]; exact Nat.le_refl _) _)
   replace HO := Lib.hid (own_kep HO.out kk (Nat.le_refl _))
   replace gg := kep_next HG.out kk
   clear hW z6 g6 g7 hzl kk HZ6 t0 t1 b6 b7 b8 b9
   have b0 : W9.cell? ⟨bb, 0, none⟩ = some (.int .u32 x.k) := z9.i (i := 0) rfl
   have b1 : W9.cell? ⟨bb, 1, none⟩ = some (.int .i32 x.r) := z9.i (i := 1) rfl
   have b2 : W9.cell? ⟨bb, 2, none⟩ = some (.int .i32 x.ax) := z9.i (i := 2) rfl
   have b3 : W9.cell? ⟨bb, 3, none⟩ = some (.int .i32 x.ay) := z9.i (i := 3) rfl
   have b4 : W9.cell? ⟨bb, 4, none⟩ = some (.int .i32 x.m) := z9.i (i := 4) rfl
   have b5 : W9.cell? ⟨bb, 5, none⟩ = some (.int .i32 x.o) := z9.i (i := 5) rfl
   have b6 : W9.cell? ⟨bb, 6, none⟩ = some (.int .i32 lx) := z9.i (i := 6) rfl
   have b7 : W9.cell? ⟨bb, 7, none⟩ = some (.int .i32 ly) := z9.i (i := 7) rfl
   have b8 : W9.cell? ⟨bb, 8, none⟩ = some (.int .i32 x.vx) := z9.i (i := 8) rfl
   have b9 : W9.cell? ⟨bb, 9, none⟩ = some (.int .i32 x.vy) := z9.i (i := 9) rfl
   clear z9
   cases z with
   | true =>
     go_wp2_with (first
      | (at_builtin; refine wpList_app vals 10 vals_lenK vals_oneK rfl _ _ 22 rfl 40 _ 40 Tryz.underlying22 info_body rfl (by decide) w.heap.size _ _ ((mtL L D).take k) (plB x lx ly) rfl HO.out _ (by first | rfl | simp) rfl _ rfl (by rw [hln]; unfold maxLen; omega) (by rw [hln]; omega) gg.size ?_; intro v3 w3 o3 k3))
     have HM : Hid (w3.ownsRow w.heap.size 40 10 v3 ((mtL L D).take (k + 1)).length (((mtL L D).take (k + 1)).flatMap vals) ∧ Kep w.heap.size w w3) := Lib.hid ⟨by rw [HTB.out]; exact o3, gg.trans k3⟩
     clear o3 k3 hln
     go_roundw
     case rel => exact ⟨k + 1, by omega, by go_num, ⟨true, rfl, Lib.hid (by rw [HTZ.out]; simp)⟩, HM⟩
     case measure => simp [RowKit.intOf]; omega
   | false =>
     cases zx with
     | true =>
       go_wp2_with (first
        | (at_builtin; refine wpList_app vals 10 vals_lenK vals_oneK rfl _ _ 22 rfl 40 _ 40 Tryz.underlying22 info_body rfl (by decide) w.heap.size _ _ ((mtL L D).take k) (plB x lx ly) rfl HO.out _ (by first | rfl | simp) rfl _ rfl (by rw [hln]; unfold maxLen; omega) (by rw [hln]; omega) gg.size ?_; intro v3 w3 o3 k3))
       have HM : Hid (w3.ownsRow w.heap.size 40 10 v3 ((mtL L D).take (k + 1)).length (((mtL L D).take (k + 1)).flatMap vals) ∧ Kep w.heap.size w w3) := Lib.hid ⟨by rw [HTB.out]; exact o3, gg.trans k3⟩
       clear o3 k3 hln
       go_roundw
       case rel => exact ⟨k + 1, by omega, by go_num, ⟨true, rfl, Lib.hid (by rw [HTZ.out]; simp)⟩, HM⟩
       case measure => simp [RowKit.intOf]; omega
     | false =>
       go_wp2_with (first
        | (at_builtin; refine wpList_app vals 10 vals_lenK vals_oneK rfl _ _ 22 rfl 40 _ 40 Tryz.underlying22 info_body rfl (by decide) w.heap.size _ _ ((mtL L D).take k) (plB x lx ly) rfl HO.out _ (by first | rfl | simp) rfl _ rfl (by rw [hln]; unfold maxLen; omega) (by rw [hln]; omega) gg.size ?_; intro v3 w3 o3 k3))
       have HM : Hid (w3.ownsRow w.heap.size 40 10 v3 ((mtL L D).take (k + 1)).length (((mtL L D).take (k + 1)).flatMap vals) ∧ Kep w.heap.size w w3) := Lib.hid ⟨by rw [HTB.out]; exact o3, gg.trans k3⟩
       clear o3 k3 hln
       go_roundw
       case rel => exact ⟨k + 1, by omega, by go_num, ⟨zy, rfl, Lib.hid (by rw [HTZ.out]; simp)⟩, HM⟩
       case measure => simp [RowKit.intOf]; omega
  ·obtain rfl : k = nl := by omega
   obtain ⟨h1, h2⟩ := HP.out
   rw [List.take_of_length_le (by rw [HML.out]; exact Nat.le_refl _)] at h1
   have hz := HZ.out
   rw [List.take_of_length_le (by rw [HMA.out]; exact Nat.le_refl _)] at hz
   have H1 := Lib.hid (own_lst h1)
   have HC9 : Hid (z = (mtA L D).any id) := Lib.hid hz.symm
   clear h1 HP hz HZ
   go_wp2_with fail
   go_ret2
   exact ⟨_, by rw [← HC9.out]; rfl, H1.out, h2⟩
end Go.Proofs.YtaknmlohnifcdaaGreatDoor
