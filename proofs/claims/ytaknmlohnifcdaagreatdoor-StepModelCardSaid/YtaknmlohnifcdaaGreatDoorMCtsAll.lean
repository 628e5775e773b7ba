import Derived.Test.YtaknmlohnifcdaaGreatDoorJ28MCtsOps1
import Derived.Test.YtaknmlohnifcdaaGreatDoorJ16MPairsBox
import Derived.Deep.DeepCutAuto
import Derived.Laws.MakeOwn
import Derived.Deep.QuietTactic
import Derived.BigQuiet
import Derived.StillTailTactics
set_option maxHeartbeats 4000000
set_option maxRecDepth 100000
namespace Go.Proofs.YtaknmlohnifcdaaGreatDoor
open Go.RowKit Go.Lib Go.Maps

theorem mk_cons (nc : Nat) (h : nc ≤ 1000) (W : World) : (Instr.makeSlice 50 (.int .i64 0) (.int .i64 (nc : Int))).run Tryz.prog W = .ok (.slice (some ⟨W.heap.size, 0, none⟩) 0 nc) (W.alloc (.cells (madeCells #[.int .u32 0, .int .u32 0, .int .i32 0, .int .i32 0, .int .i32 0] (nc * 5)) 77)) := by
 obtain ⟨i0, hi, hz0, hz1, hz2⟩ := info_parts info_con
 have r := run_make (P := Tryz.prog) W 50 77 i0 _ Tryz.underlying50 hi hz0 .i64 .i64 0 (nc : Int) (Int.le_refl _) (by omega) (by rw [hz2]; omega) (by omega)
 rw [hz1, Int.toNat_natCast] at r
 exact r
theorem own_mk (w2 Y : World) (nc : Nat) (h : nc ≤ 1000) (k : Kep w2.heap.size w2 Y) : (Y.alloc (.cells (madeCells #[.int .u32 0, .int .u32 0, .int .i32 0, .int .i32 0, .int .i32 0] (nc * 5)) 77)).ownsRow w2.heap.size 77 5 (.slice (some ⟨Y.heap.size, 0, none⟩) 0 nc) 0 [] :=
 World.ownsRow_made Y _ nc k.size (by unfold maxLen; omega) (size_madeCells _ _)
theorem CI.made {w2 Y : World} {cb mb n : Nat} {D : DataW Unit} {sv : Value} (K : Kep w2.heap.size w2 Y) (lo : w2.heap.size ≤ cb) (O : OwnB Y mb n D) (Z : ZC Y cb [.map none, .slice none 0 0]) (R : Y.ownsRow w2.heap.size 77 5 sv 0 []) (ne : sv.ownBlock ≠ some cb) :
 CI w2 ((Y.setCell ⟨cb, 0, none⟩ (.map (some mb))).setCell ⟨cb, 1, none⟩ sv) cb mb n D sv [] := by
 have z := Z.set [.map (some mb), sv] (by simp)
 simp only [setAll, Nat.zero_add] at z
 refine ⟨(K.setCell lo _).setCell lo _, lo, ?_, z.i (i := 0) rfl, z.i (i := 1) rfl, z.frz 1, ?_, ne⟩
 ·have hn := map_ne O (Z.i (i := 0) rfl)
  refine map_blk O ?_
  rw [Below.heap_setCell _ _ _ mb hn, Below.heap_setCell _ _ _ mb hn]
 ·exact ownsRow_setCell_other (ownsRow_setCell_other R ne _) ne _
theorem ctall : CAll := fun v L w F h V => by
 have CF := Lib.hid (pfind v L w F h V)
 have HV := Lib.hid V
 have HH := Lib.hid h
 have hcl := conP_len L (pairsL L)
 rw [conP_all V.asc (fun x hx => okc_of V x hx)] at hcl
 have hpm := pairs_max V.len
 have HC := Lib.hid hcl
 clear F h V hcl
 go_enter Tryz.func36, Tryz.ntmps36
 go_upto_region 2 with ((with_reducible refine (CF.out).mono ?_); rintro e w2 ⟨v2, n2, rfl, ⟨q2, l2, m2⟩, k2⟩; obtain ⟨base, cap, rfl⟩ := q2.shape; have HQ := Lib.hid q2; have HK := Lib.hid k2; have HN := Lib.hid (And.intro l2 m2); clear q2 k2 l2 m2)
 have CB : Hid (∀ W, Kep w2.heap.size w2 W → Calls Tryz.prog 51 #[v] W fun e w' => ∃ v', e = .returned v' ∧ (BodR w' v' L ∧ ∀ b, v' = .map (some b) → W.heap.size ≤ b) ∧ Kep W.heap.size W w') := Lib.hid fun W k => pbky v L W (HH.out.kep (kep_next HK.out k)) HV.out
 clear CF HH
 generalize hnc : (pairsL L).length = nc at *
 have HNC := Lib.hid hnc
 clear hnc
 have hmk := mk_cons nc (by omega)
 go_cut [5] (fun s5 wx => ∃ cb mb n D sv, s5 = .pointer (some ⟨cb, 0, none⟩) ∧ BodM D L ∧ CI w2 wx cb mb n D sv [])
 case first =>
  refine wp_region_noPanic ?_
  refine wp_region_held_drew (S := fun w' => Kep w2.heap.size w2 w') (by kernel_rfl) (kep_drew (Kep.refl _ _)) (fun hH => ?_)
  generalize w2.drew = Y0 at hH ⊢
  refine sT 0 hH ?_
  refine sT 2 hH ?_
  refine sN 3 hH ?_
  refine wpAnyH_ready (rs := [1, 4, 6]) (by kernel_rfl) (by simp) ?_
  refine AllReadyH.cons (o := ⟨some 12, .call { callee := .value (.func 51), args := #[.tmp 11], argTypes := #[22] }, _, _, _, none⟩) rfl (fun K hK => ?_) (AllReadyH.cons (o := ⟨some 15, .makeSlice 50 (.const (Value.int IntKind.i64 0)) (.tmp 14), _, _, _, none⟩) rfl (fun K hK => ?_) (AllReadyH.cons (o := ⟨some 5, .alloc 93, _, _, _, none⟩) rfl (fun K hK => ?_) AllReadyH.nil))
  ·go_simp
   refine (CB.out _ hH).mono ?_
   rintro e Y1 ⟨v1, rfl, ⟨⟨mb, nm, D, rfl, hnm, hO, hM⟩, -⟩, g⟩
   have hk := kep_next hH g
   refine hK.out _ _ hk (fun hH2 => ?_)
   clear hK K hH hH2 g hnm; have hH := hk; clear hk
   try simp only [Act.put, List.setIfInBounds_toArray, List.set_cons_zero, List.set_cons_succ]
   refine wpAnyH_ready (rs := [4, 6]) (by kernel_rfl) (by simp) ?_
   refine AllReadyH.cons (o := ⟨some 15, .makeSlice 50 (.const (Value.int IntKind.i64 0)) (.tmp 14), _, _, _, none⟩) rfl (fun K hK => ?_) (AllReadyH.cons (o := ⟨some 5, .alloc 93, _, _, _, none⟩) rfl (fun K hK => ?_) AllReadyH.nil)
   ·go_simp
    have hR := own_mk w2 Y1 nc (by omega) hH
    have hk := kep_more hH (.cells (madeCells #[.int .u32 0, .int .u32 0, .int .i32 0, .int .i32 0, .int .i32 0] (nc * 5)) 77)
    have hs : Y1.heap.size < (Y1.alloc (.cells (madeCells #[.int .u32 0, .int .u32 0, .int .i32 0, .int .i32 0, .int .i32 0] (nc * 5)) 77)).heap.size := by simp
    replace hO := map_kep hO (kep_more (Kep.refl _ _) (.cells (madeCells #[.int .u32 0, .int .u32 0, .int .i32 0, .int .i32 0, .int .i32 0] (nc * 5)) 77))
    refine hK.out _ _ hk (fun hH2 => ?_)
    clear hK K hH hH2; have hH := hk; clear hk
    generalize Y1.heap.size = sb at *
    generalize Y1.alloc _ = Y2 at *
    refine sN 5 hH ?_
    refine sC 6 (fun K hK => ?_)
    go_simp
    have hZ := zc_new Y2 [.map none, .slice none 0 0] 93
    have hk := kep_more hH (.cells #[.map none, .slice none 0 0] 93)
    have lo := hH.size
    have hsc : some sb ≠ some Y2.heap.size := by intro q; injection q with q; omega
    replace hR := own_kep hR (kep_more (Kep.refl _ _) (.cells #[.map none, .slice none 0 0] 93)) (Nat.le_refl _)
    clear hs
    replace hO := map_kep hO (kep_more (Kep.refl _ _) (.cells #[.map none, .slice none 0 0] 93))
    refine hK.out _ _ hk (fun hH2 => ?_)
    clear hK K hH hH2; have hH := hk; clear hk
    generalize Y2.heap.size = cb at *
    generalize Y2.alloc _ = Y3 at *
    try simp only [Act.put, List.setIfInBounds_toArray, List.set_cons_zero, List.set_cons_succ]
    refine sC 7 (fun K hK => ?_)
    have z0 := hZ.i (i := 0) rfl; have z1 := hZ.i (i := 1) rfl; have x0 := hZ.frz 0; have x1 := hZ.frz 1
    have HCI := Lib.hid (CI.made hH lo hO hZ hR hsc)
    have HM := Lib.hid hM
    clear hO hR hM
    go_simp
    refine hK.out _ _ HCI.out.kep (fun hH2 => ?_)
    clear hK K hH hH2 z0 z1 x0 x1 hZ
    try simp only [Act.put, List.setIfInBounds_toArray, List.set_cons_zero, List.set_cons_succ]
    refine sE ?_
    go_wp2_with fail
    go_meet
    exact ⟨_, _, _, _, _, rfl, HM.out, HCI.out⟩
   ·go_simp
    have hZ := zc_new Y1 [.map none, .slice none 0 0] 93
    have hk := kep_more hH (.cells #[.map none, .slice none 0 0] 93)
    have lo := hH.size
    replace hO := map_kep hO (kep_more (Kep.refl _ _) (.cells #[.map none, .slice none 0 0] 93))
    refine hK.out _ _ hk (fun hH2 => ?_)
    clear hK K hH hH2; have hH := hk; clear hk
    generalize Y1.heap.size = cb at *
    generalize Y1.alloc _ = Y2 at *
    try simp only [Act.put, List.setIfInBounds_toArray, List.set_cons_zero, List.set_cons_succ]
    refine sC 4 (fun K hK => ?_)
    go_simp
    have hR := own_mk w2 Y2 nc (by omega) hH
    have hk := kep_more hH (.cells (madeCells #[.int .u32 0, .int .u32 0, .int .i32 0, .int .i32 0, .int .i32 0] (nc * 5)) 77)
    have hsc : some Y2.heap.size ≠ some cb := by have := hZ.lt; intro q; injection q with q; omega
    replace hZ := ZC.more hZ (.cells (madeCells #[.int .u32 0, .int .u32 0, .int .i32 0, .int .i32 0, .int .i32 0] (nc * 5)) 77)
    replace hO := map_kep hO (kep_more (Kep.refl _ _) (.cells (madeCells #[.int .u32 0, .int .u32 0, .int .i32 0, .int .i32 0, .int .i32 0] (nc * 5)) 77))
    refine hK.out _ _ hk (fun hH2 => ?_)
    clear hK K hH hH2; have hH := hk; clear hk
    generalize Y2.heap.size = sb at *
    generalize Y2.alloc _ = Y3 at *
    refine sN 5 hH ?_
    refine sC 7 (fun K hK => ?_)
    have z0 := hZ.i (i := 0) rfl; have z1 := hZ.i (i := 1) rfl; have x0 := hZ.frz 0; have x1 := hZ.frz 1
    have HCI := Lib.hid (CI.made hH lo hO hZ hR hsc)
    have HM := Lib.hid hM
    clear hO hR hM
    go_simp
    refine hK.out _ _ HCI.out.kep (fun hH2 => ?_)
    clear hK K hH hH2 z0 z1 x0 x1 hZ
    try simp only [Act.put, List.setIfInBounds_toArray, List.set_cons_zero, List.set_cons_succ]
    refine sE ?_
    go_wp2_with fail
    go_meet
    exact ⟨_, _, _, _, _, rfl, HM.out, HCI.out⟩
  ·go_simp
   have hR := own_mk w2 Y0 nc (by omega) hH
   have hk := kep_more hH (.cells (madeCells #[.int .u32 0, .int .u32 0, .int .i32 0, .int .i32 0, .int .i32 0] (nc * 5)) 77)
   have hs : Y0.heap.size < (Y0.alloc (.cells (madeCells #[.int .u32 0, .int .u32 0, .int .i32 0, .int .i32 0, .int .i32 0] (nc * 5)) 77)).heap.size := by simp
   refine hK.out _ _ hk (fun hH2 => ?_)
   clear hK K hH hH2; have hH := hk; clear hk
   generalize Y0.heap.size = sb at *
   generalize Y0.alloc _ = Y1 at *
   try simp only [Act.put, List.setIfInBounds_toArray, List.set_cons_zero, List.set_cons_succ]
   refine wpAnyH_ready (rs := [1, 6]) (by kernel_rfl) (by simp) ?_
   refine AllReadyH.cons (o := ⟨some 12, .call { callee := .value (.func 51), args := #[.tmp 11], argTypes := #[22] }, _, _, _, none⟩) rfl (fun K hK => ?_) (AllReadyH.cons (o := ⟨some 5, .alloc 93, _, _, _, none⟩) rfl (fun K hK => ?_) AllReadyH.nil)
   ·go_simp
    refine (CB.out _ hH).mono ?_
    rintro e Y2 ⟨v1, rfl, ⟨⟨mb, nm, D, rfl, hnm, hO, hM⟩, -⟩, g⟩
    replace hR := own_kep hR g (Nat.le_refl _)
    replace hs := Nat.lt_of_lt_of_le hs g.size
    have hk := kep_next hH g
    refine hK.out _ _ hk (fun hH2 => ?_)
    clear hK K hH hH2 g hnm; have hH := hk; clear hk
    refine sN 5 hH ?_
    refine sC 6 (fun K hK => ?_)
    go_simp
    have hZ := zc_new Y2 [.map none, .slice none 0 0] 93
    have hk := kep_more hH (.cells #[.map none, .slice none 0 0] 93)
    have lo := hH.size
    have hsc : some sb ≠ some Y2.heap.size := by intro q; injection q with q; omega
    replace hR := own_kep hR (kep_more (Kep.refl _ _) (.cells #[.map none, .slice none 0 0] 93)) (Nat.le_refl _)
    clear hs
    replace hO := map_kep hO (kep_more (Kep.refl _ _) (.cells #[.map none, .slice none 0 0] 93))
    refine hK.out _ _ hk (fun hH2 => ?_)
    clear hK K hH hH2; have hH := hk; clear hk
    generalize Y2.heap.size = cb at *
    generalize Y2.alloc _ = Y3 at *
    try simp only [Act.put, List.setIfInBounds_toArray, List.set_cons_zero, List.set_cons_succ]
    refine sC 7 (fun K hK => ?_)
    have z0 := hZ.i (i := 0) rfl; have z1 := hZ.i (i := 1) rfl; have x0 := hZ.frz 0; have x1 := hZ.frz 1
    have HCI := Lib.hid (CI.made hH lo hO hZ hR hsc)
    have HM := Lib.hid hM
    clear hO hR hM
    go_simp
    refine hK.out _ _ HCI.out.kep (fun hH2 => ?_)
    clear hK K hH hH2 z0 z1 x0 x1 hZ
    try simp only [Act.put, List.setIfInBounds_toArray, List.set_cons_zero, List.set_cons_succ]
    refine sE ?_
    go_wp2_with fail
    go_meet
    exact ⟨_, _, _, _, _, rfl, HM.out, HCI.out⟩
   ·go_simp
    have hZ := zc_new Y1 [.map none, .slice none 0 0] 93
    have hk := kep_more hH (.cells #[.map none, .slice none 0 0] 93)
    have lo := hH.size
    have hsc : some sb ≠ some Y1.heap.size := by intro q; injection q with q; omega
    replace hR := own_kep hR (kep_more (Kep.refl _ _) (.cells #[.map none, .slice none 0 0] 93)) (Nat.le_refl _)
    clear hs
    refine hK.out _ _ hk (fun hH2 => ?_)
    clear hK K hH hH2; have hH := hk; clear hk
    generalize Y1.heap.size = cb at *
    generalize Y1.alloc _ = Y2 at *
    try simp only [Act.put, List.setIfInBounds_toArray, List.set_cons_zero, List.set_cons_succ]
    refine sC 1 (fun K hK => ?_)
    go_simp
    refine (CB.out _ hH).mono ?_
    rintro e Y3 ⟨v1, rfl, ⟨⟨mb, nm, D, rfl, hnm, hO, hM⟩, -⟩, g⟩
    replace hR := own_kep hR g (Nat.le_refl _)
    replace hZ := ZC.kep hZ g
    have hk := kep_next hH g
    refine hK.out _ _ hk (fun hH2 => ?_)
    clear hK K hH hH2 g hnm; have hH := hk; clear hk
    refine sN 5 hH ?_
    refine sC 7 (fun K hK => ?_)
    have z0 := hZ.i (i := 0) rfl; have z1 := hZ.i (i := 1) rfl; have x0 := hZ.frz 0; have x1 := hZ.frz 1
    have HCI := Lib.hid (CI.made hH lo hO hZ hR hsc)
    have HM := Lib.hid hM
    clear hO hR hM
    go_simp
    refine hK.out _ _ HCI.out.kep (fun hH2 => ?_)
    clear hK K hH hH2 z0 z1 x0 x1 hZ
    try simp only [Act.put, List.setIfInBounds_toArray, List.set_cons_zero, List.set_cons_succ]
    refine sE ?_
    go_wp2_with fail
    go_meet
    exact ⟨_, _, _, _, _, rfl, HM.out, HCI.out⟩
  ·go_simp
   have hZ := zc_new Y0 [.map none, .slice none 0 0] 93
   have hk := kep_more hH (.cells #[.map none, .slice none 0 0] 93)
   have lo := hH.size
   refine hK.out _ _ hk (fun hH2 => ?_)
   clear hK K hH hH2; have hH := hk; clear hk
   generalize Y0.heap.size = cb at *
   generalize Y0.alloc _ = Y1 at *
   try simp only [Act.put, List.setIfInBounds_toArray, List.set_cons_zero, List.set_cons_succ]
   refine wpAnyH_ready (rs := [1, 4]) (by kernel_rfl) (by simp) ?_
   refine AllReadyH.cons (o := ⟨some 12, .call { callee := .value (.func 51), args := #[.tmp 11], argTypes := #[22] }, _, _, _, none⟩) rfl (fun K hK => ?_) (AllReadyH.cons (o := ⟨some 15, .makeSlice 50 (.const (Value.int IntKind.i64 0)) (.tmp 14), _, _, _, none⟩) rfl (fun K hK => ?_) AllReadyH.nil)
   ·go_simp
    refine (CB.out _ hH).mono ?_
    rintro e Y2 ⟨v1, rfl, ⟨⟨mb, nm, D, rfl, hnm, hO, hM⟩, -⟩, g⟩
    replace hZ := ZC.kep hZ g
    have hk := kep_next hH g
    refine hK.out _ _ hk (fun hH2 => ?_)
    clear hK K hH hH2 g hnm; have hH := hk; clear hk
    try simp only [Act.put, List.setIfInBounds_toArray, List.set_cons_zero, List.set_cons_succ]
    refine sC 4 (fun K hK => ?_)
    go_simp
    have hR := own_mk w2 Y2 nc (by omega) hH
    have hk := kep_more hH (.cells (madeCells #[.int .u32 0, .int .u32 0, .int .i32 0, .int .i32 0, .int .i32 0] (nc * 5)) 77)
    have hsc : some Y2.heap.size ≠ some cb := by have := hZ.lt; intro q; injection q with q; omega
    replace hZ := ZC.more hZ (.cells (madeCells #[.int .u32 0, .int .u32 0, .int .i32 0, .int .i32 0, .int .i32 0] (nc * 5)) 77)
    replace hO := map_kep hO (kep_more (Kep.refl _ _) (.cells (madeCells #[.int .u32 0, .int .u32 0, .int .i32 0, .int .i32 0, .int .i32 0] (nc * 5)) 77))
    refine hK.out _ _ hk (fun hH2 => ?_)
    clear hK K hH hH2; have hH := hk; clear hk
    generalize Y2.heap.size = sb at *
    generalize Y2.alloc _ = Y3 at *
    refine sN 5 hH ?_
    refine sC 7 (fun K hK => ?_)
    have z0 := hZ.i (i := 0) rfl; have z1 := hZ.i (i := 1) rfl; have x0 := hZ.frz 0; have x1 := hZ.frz 1
    have HCI := Lib.hid (CI.made hH lo hO hZ hR hsc)
    have HM := Lib.hid hM
    clear hO hR hM
    go_simp
    refine hK.out _ _ HCI.out.kep (fun hH2 => ?_)
    clear hK K hH hH2 z0 z1 x0 x1 hZ
    try simp only [Act.put, List.setIfInBounds_toArray, List.set_cons_zero, List.set_cons_succ]
    refine sE ?_
    go_wp2_with fail
    go_meet
    exact ⟨_, _, _, _, _, rfl, HM.out, HCI.out⟩
   ·go_simp
    have hR := own_mk w2 Y1 nc (by omega) hH
    have hk := kep_more hH (.cells (madeCells #[.int .u32 0, .int .u32 0, .int .i32 0, .int .i32 0, .int .i32 0] (nc * 5)) 77)
    have hsc : some Y1.heap.size ≠ some cb := by have := hZ.lt; intro q; injection q with q; omega
    replace hZ := ZC.more hZ (.cells (madeCells #[.int .u32 0, .int .u32 0, .int .i32 0, .int .i32 0, .int .i32 0] (nc * 5)) 77)
    refine hK.out _ _ hk (fun hH2 => ?_)
    clear hK K hH hH2; have hH := hk; clear hk
    generalize Y1.heap.size = sb at *
    generalize Y1.alloc _ = Y2 at *
    try simp only [Act.put, List.setIfInBounds_toArray, List.set_cons_zero, List.set_cons_succ]
    refine sC 1 (fun K hK => ?_)
    go_simp
    refine (CB.out _ hH).mono ?_
    rintro e Y3 ⟨v1, rfl, ⟨⟨mb, nm, D, rfl, hnm, hO, hM⟩, -⟩, g⟩
    replace hR := own_kep hR g (Nat.le_refl _)
    replace hZ := ZC.kep hZ g
    have hk := kep_next hH g
    refine hK.out _ _ hk (fun hH2 => ?_)
    clear hK K hH hH2 g hnm; have hH := hk; clear hk
    refine sN 5 hH ?_
    refine sC 7 (fun K hK => ?_)
    have z0 := hZ.i (i := 0) rfl; have z1 := hZ.i (i := 1) rfl; have x0 := hZ.frz 0; have x1 := hZ.frz 1
    have HCI := Lib.hid (CI.made hH lo hO hZ hR hsc)
    have HM := Lib.hid hM
    clear hO hR hM
    go_simp
    refine hK.out _ _ HCI.out.kep (fun hH2 => ?_)
    clear hK K hH hH2 z0 z1 x0 x1 hZ
    try simp only [Act.put, List.setIfInBounds_toArray, List.set_cons_zero, List.set_cons_succ]
    refine sE ?_
    go_wp2_with fail
    go_meet
    exact ⟨_, _, _, _, _, rfl, HM.out, HCI.out⟩
 case rest =>
  obtain ⟨cb, mb, n, D, sv, rfl, hM, hci⟩ := hcut
  have CE := Lib.hid (ceach HV.out HQ.out hci hM)
  clear CB hmk hM hci
  go_upto_region 4 with ((with_reducible refine (CE.out).mono ?_); rintro e w4 ⟨rfl, lv, h4⟩)
  have c1 := h4.c1
  have H4 := Lib.hid h4
  clear h4
  go_wp2_with fail
  have := HC.out
  have := HN.out
  refine bodyPost_ret (v := .tuple #[lv, .int .i64 n2]) (by simp [results, Tryz.results36, go_sem]) rfl ?_
  exact ⟨_, _, rfl, ⟨own_sq ctv_len H4.out.row, by omega, HN.out.2, own_rmy H4.out.row⟩, kep_next HK.out H4.out.kep⟩
end Go.Proofs.YtaknmlohnifcdaaGreatDoor
