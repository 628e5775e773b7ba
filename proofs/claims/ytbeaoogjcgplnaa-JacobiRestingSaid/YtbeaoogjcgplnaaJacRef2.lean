/-
  Package jacobi: the reference's sum.
-/
import Derived.Test.YtbeaoogjcgplnaaJacRef1
import Derived.Test.YtbeaoogjcgplnaaJ08RefShift
import Derived.Deep.DeepCutAuto
import Derived.Deep.QuietTactic
import Derived.BigQuiet
namespace Go.Proofs.Ytbeaoogjcgplnaa
open Go.RowKit Go.Lib

abbrev RSx (L : List Bd) (C : List Ct) (i : Nat) (x : Bd) : Prop := ∀ v l w, Lst w v L → Sq ctv 5 w l C → Calls Try.prog 26 #[v, l, .int .i64 i, .bool false] w fun e w' => e = .returned (.int .i64 (sumJ (·.nx) L C x)) ∧ Kep w.heap.size w w'
set_option maxRecDepth 100000 in
set_option maxHeartbeats 8000000 in
theorem rsj_x (L : List Bd) (hm : L.length ≤ 1000000) (HV : Hid (∀ x ∈ L, Vb x)) (HA : Hid (Asc L)) (C : List Ct) (hmC : C.length ≤ 100) (HR : Hid (∀ c ∈ C, RgC L c)) (i : Nat) (x : Bd) (hx : L[i]? = some x) : RSx L C i x := fun v l w h hl => by
  have HL := Lib.hid h
  obtain ⟨bc, cc, rfl, hc⟩ := hl
  have HC := Lib.hid hc
  obtain ⟨ba, ca, rfl⟩ := h.shape
  have FD := Lib.hid (fun key w h => find_any (.slice ba L.length ca) L key w h (by omega))
  have HLA := Lib.hid (fun (k : Nat) (y : Bd) (hy : L[k]? = some y) => h.at_ hy)
  obtain ⟨gl, off, rfl, qx⟩ := HLA.out i x hx
  have HLB : Hid (∀ (k : Nat) (y : Bd), L[k]? = some y → ∀ q, q < 10 → w.cell? ⟨gl, off + k * 10 + q, none⟩ = (vals y)[q]?) := Lib.hid fun k y hy => by
    obtain ⟨_, _, e, q⟩ := HLA.out k y hy
    injection e with e
    injection e with e1 e2
    subst e1 e2
    exact q
  have hxm := List.mem_of_getElem? hx
  have HXV := Lib.hid (HV.out x hxm)
  have HXL := Lib.hid (show look L x.k = some x from look_mem HA.out.once hxm)
  have HXM := Lib.hid hxm
  have hil : i < L.length := (List.getElem?_eq_some_iff.1 hx).1
  have hgl : gl < w.heap.size := World.block_lt_of_cell? _ _ (qx 0 (by decide))
  have HS0 := Lib.hid (qx 0 (by decide))
  have HS4 := Lib.hid (qx 4 (by decide))
  clear h hc HLA qx hx hxm
  generalize hnl : L.length = nl at *
  have HNL := Lib.hid hnl
  generalize hnc : C.length = nc at *
  have HN := Lib.hid hnc
  clear hnl hnc
  go_enter Try.func26, Try.ntmps26
  go_wp2_with fail
  go_loopw [9, 10] (fun n j wr => ∃ k : Nat, k ≤ nc ∧ j = .int .i64 k ∧ ∃ t : Int, n = .int .i64 t ∧ Hid (t = sumJ (·.nx) L (C.take k) x ∧ Kep w.heap.size w wr)) (fun _ j _ => nc - (RowKit.intOf j).toNat)
  case atStart => exact ⟨0, by omega, rfl, 0, rfl, Lib.hid ⟨by simp [sumJ, isum], Kep.refl _ _⟩⟩
  case round =>
    obtain ⟨k, hk, rfl, t, rfl, HP⟩ := hrel
    by_cases hlt : k < nc
    · have hb : C[k]? = some (C[k]'(by rw [HN.out]; exact hlt)) := List.getElem?_eq_getElem _
      generalize C[k]'(by rw [HN.out]; exact hlt) = c at hb
      obtain ⟨gc, oc, rfl, q⟩ := HC.out k c hb
      have gg := HP.out.2
      have hrc := HR.out c (List.mem_of_getElem? hb)
      obtain ⟨a, ha⟩ := Option.isSome_iff_exists.1 hrc.lo
      obtain ⟨b, hbb⟩ := Option.isSome_iff_exists.1 hrc.hi
      obtain ⟨ja, hja, hga⟩ := (place_eq L c.lo 0).2 a ha
      obtain ⟨jb, hjb, hgb⟩ := (place_eq L c.hi 0).2 b hbb
      rw [Nat.zero_add] at hja hjb
      have hjal : ja < nl := by have := (List.getElem?_eq_some_iff.1 hga).1; rw [HNL.out] at this; exact this
      have hjbl : jb < nl := by have := (List.getElem?_eq_some_iff.1 hgb).1; rw [HNL.out] at this; exact this
      have FA := Lib.hid (fun w h => (show Calls Try.prog 20 #[.slice (some ⟨gl, off, none⟩) nl ca, .int .u32 c.lo] w fun e w' => e = .returned (.int .i64 (ja : Int)) ∧ w = w' by rw [← hja]; exact FD.out c.lo w h))
      have FB := Lib.hid (fun w h => (show Calls Try.prog 20 #[.slice (some ⟨gl, off, none⟩) nl ca, .int .u32 c.hi] w fun e w' => e = .returned (.int .i64 (jb : Int)) ∧ w = w' by rw [← hjb]; exact FD.out c.hi w h))
      obtain ⟨js, hjs⟩ : ∃ js, js = stJ L c := ⟨_, rfl⟩
      obtain ⟨d, hd⟩ : ∃ d, d = chI js x.m c.nx := ⟨_, rfl⟩
      have hsb := stJ_bd HV.out hrc
      rw [← hjs] at hsb
      have JS := Lib.hid (jst (lo := c.lo) (hi := c.hi) (dp := c.dp) (t := js) (HV.out a (look_some ha).1) (HV.out b (look_some hbb).1) hrc.nx hrc.ny (by rw [hjs]; unfold stJ; rw [bdK_eq ha, bdK_eq hbb]))
      have JC := Lib.hid (jch (j := js) (i := x.m) (n := c.nx) (t := d) hsb ⟨HXV.out.m0, HXV.out.m1⟩ hrc.nx hd.symm)
      have hdb := chI_bd hsb ⟨HXV.out.m0, HXV.out.m1⟩ hrc.nx
      rw [← hd] at hdb
      have htb := sumJ_bd (f := (·.nx)) (C := C.take k) HV.out HXM.out (fun c hc => HR.out c (List.mem_of_mem_take hc)) (fun c hc => (HR.out c (List.mem_of_mem_take hc)).nx) (by rw [List.length_take]; omega)
      rw [← HP.out.1] at htb
      have HAT := Lib.hid (sumJ_at (f := (·.nx)) (L := L) (x := x) hb)
      have HT := Lib.hid HP.out.1
      have HKL : Hid (conJ (·.nx) L x c = if c.lo = x.k then -d else if c.hi = x.k then d else 0) := Lib.hid (by unfold conJ; rw [← hjs, ← hd])
      have hga2 := Lib.hid (HLB.out ja a hga)
      have hgb2 := Lib.hid (HLB.out jb b hgb)
      have HNE := Lib.hid (show c.lo ≠ c.hi by have := hrc.lt; omega)
      have hgc : gc < w.heap.size := World.block_lt_of_cell? _ _ (q 0 _ rfl)
      have HQ := Lib.hid q
      have gsz := gg.size
      clear hb hrc ha hbb hja hjb hga hgb hjs hd hsb q HP
      have i1 : (0 : Int) ≤ (ja : Int) := by omega
      have i2 : (ja : Int) < (nl : Int) := by omega
      have i3 : (0 : Int) ≤ (jb : Int) := by omega
      have i4 : (jb : Int) < (nl : Int) := by omega
      have i5 : (0 : Int) ≤ (i : Int) := by omega
      have i6 : (i : Int) < (nl : Int) := by omega
      have t0 : wr.cell? ⟨gc, oc + k * 5, none⟩ = some (.int .u32 c.lo) := gg.all (HQ.out 0 _ rfl)
      have t1 : wr.cell? ⟨gc, oc + k * 5 + 1, none⟩ = some (.int .u32 c.hi) := gg.all (HQ.out 1 _ rfl)
      have t2 : wr.cell? ⟨gc, oc + k * 5 + 2, none⟩ = some (.int .i32 c.nx) := gg.all (HQ.out 2 _ rfl)
      have t3 : wr.cell? ⟨gc, oc + k * 5 + 3, none⟩ = some (.int .i32 c.ny) := gg.all (HQ.out 3 _ rfl)
      have t4 : wr.cell? ⟨gc, oc + k * 5 + 4, none⟩ = some (.int .i32 c.dp) := gg.all (HQ.out 4 _ rfl)
      go_wp2_with fail
      generalize hW : World.alloc wr _ = W6
      have kW : Kep wr.heap.size wr W6 := by rw [← hW]; exact kep_more (Kep.refl _ _) _
      have c0 : W6.cell? ⟨wr.heap.size, 0, none⟩ = some (.int .u32 c.lo) := by rw [← hW, World.cell?_alloc_at _ _ _ _ (by simp)]; rfl
      have c1 : W6.cell? ⟨wr.heap.size, 1, none⟩ = some (.int .u32 c.hi) := by rw [← hW, World.cell?_alloc_at _ _ _ _ (by simp)]; rfl
      have c2 : W6.cell? ⟨wr.heap.size, 2, none⟩ = some (.int .i32 c.nx) := by rw [← hW, World.cell?_alloc_at _ _ _ _ (by simp)]; rfl
      have c3 : W6.cell? ⟨wr.heap.size, 3, none⟩ = some (.int .i32 c.ny) := by rw [← hW, World.cell?_alloc_at _ _ _ _ (by simp)]; rfl
      have c4 : W6.cell? ⟨wr.heap.size, 4, none⟩ = some (.int .i32 c.dp) := by rw [← hW, World.cell?_alloc_at _ _ _ _ (by simp)]; rfl
      clear hW
      have g6 : Kep w.heap.size w W6 := gg.trans (kW.mono gsz)
      have s0 : W6.cell? ⟨gl, off + i * 10, none⟩ = some (.int .u32 x.k) := g6.all HS0.out
      have s4 : W6.cell? ⟨gl, off + i * 10 + 4, none⟩ = some (.int .i32 x.m) := g6.all HS4.out
      have a0 : W6.cell? ⟨gl, off + ja * 10, none⟩ = some (.int .u32 a.k) := g6.all (hga2.out 0 (by decide))
      have a1 : W6.cell? ⟨gl, off + ja * 10 + 1, none⟩ = some (.int .i32 a.r) := g6.all (hga2.out 1 (by decide))
      have a2 : W6.cell? ⟨gl, off + ja * 10 + 2, none⟩ = some (.int .i32 a.ax) := g6.all (hga2.out 2 (by decide))
      have a3 : W6.cell? ⟨gl, off + ja * 10 + 3, none⟩ = some (.int .i32 a.ay) := g6.all (hga2.out 3 (by decide))
      have a4 : W6.cell? ⟨gl, off + ja * 10 + 4, none⟩ = some (.int .i32 a.m) := g6.all (hga2.out 4 (by decide))
      have a5 : W6.cell? ⟨gl, off + ja * 10 + 5, none⟩ = some (.int .i32 a.o) := g6.all (hga2.out 5 (by decide))
      have a6 : W6.cell? ⟨gl, off + ja * 10 + 6, none⟩ = some (.int .i32 a.px) := g6.all (hga2.out 6 (by decide))
      have a7 : W6.cell? ⟨gl, off + ja * 10 + 7, none⟩ = some (.int .i32 a.py) := g6.all (hga2.out 7 (by decide))
      have a8 : W6.cell? ⟨gl, off + ja * 10 + 8, none⟩ = some (.int .i32 a.vx) := g6.all (hga2.out 8 (by decide))
      have a9 : W6.cell? ⟨gl, off + ja * 10 + 9, none⟩ = some (.int .i32 a.vy) := g6.all (hga2.out 9 (by decide))
      have b0 : W6.cell? ⟨gl, off + jb * 10, none⟩ = some (.int .u32 b.k) := g6.all (hgb2.out 0 (by decide))
      have b1 : W6.cell? ⟨gl, off + jb * 10 + 1, none⟩ = some (.int .i32 b.r) := g6.all (hgb2.out 1 (by decide))
      have b2 : W6.cell? ⟨gl, off + jb * 10 + 2, none⟩ = some (.int .i32 b.ax) := g6.all (hgb2.out 2 (by decide))
      have b3 : W6.cell? ⟨gl, off + jb * 10 + 3, none⟩ = some (.int .i32 b.ay) := g6.all (hgb2.out 3 (by decide))
      have b4 : W6.cell? ⟨gl, off + jb * 10 + 4, none⟩ = some (.int .i32 b.m) := g6.all (hgb2.out 4 (by decide))
      have b5 : W6.cell? ⟨gl, off + jb * 10 + 5, none⟩ = some (.int .i32 b.o) := g6.all (hgb2.out 5 (by decide))
      have b6 : W6.cell? ⟨gl, off + jb * 10 + 6, none⟩ = some (.int .i32 b.px) := g6.all (hgb2.out 6 (by decide))
      have b7 : W6.cell? ⟨gl, off + jb * 10 + 7, none⟩ = some (.int .i32 b.py) := g6.all (hgb2.out 7 (by decide))
      have b8 : W6.cell? ⟨gl, off + jb * 10 + 8, none⟩ = some (.int .i32 b.vx) := g6.all (hgb2.out 8 (by decide))
      have b9 : W6.cell? ⟨gl, off + jb * 10 + 9, none⟩ = some (.int .i32 b.vy) := g6.all (hgb2.out 9 (by decide))
      have zg : gl < W6.heap.size := World.block_lt_of_cell? _ _ s0
      have zw : wr.heap.size < W6.heap.size := World.block_lt_of_cell? _ _ c0
      clear t0 t1 t2 t3 t4 kW gg gsz
      have gg := g6
      clear g6
      by_cases e0 : c.lo = x.k
      · have HE := Lib.hid e0
        rw [e0] at c0 FA JS
        clear e0
        obtain ⟨t1, ht1⟩ : ∃ t1, t1 = t - d := ⟨_, rfl⟩
        have HT1 := Lib.hid ht1
        have f1 : wrap64 (t - d) = t1 := by unfold wrap64; omega
        have f2 : IntKind.i64.wrap (t - d) = t1 := by rw [IntKind.wrap_i64]; omega
        clear ht1 htb hdb
        go_quiet (fail)
        generalize hW8 : World.drewN W6 _ = W8
        have k8 : Kep W6.heap.size W6 W8 := by rw [← hW8]; exact kep_drewN (Kep.refl _ _) _
        replace c0 := k8.all c0
        replace c1 := k8.all c1
        replace c2 := k8.all c2
        replace c3 := k8.all c3
        replace c4 := k8.all c4
        replace s0 := k8.all s0
        replace s4 := k8.all s4
        replace a0 := k8.all a0
        replace a1 := k8.all a1
        replace a2 := k8.all a2
        replace a3 := k8.all a3
        replace a4 := k8.all a4
        replace a5 := k8.all a5
        replace a6 := k8.all a6
        replace a7 := k8.all a7
        replace a8 := k8.all a8
        replace a9 := k8.all a9
        replace b0 := k8.all b0
        replace b1 := k8.all b1
        replace b2 := k8.all b2
        replace b3 := k8.all b3
        replace b4 := k8.all b4
        replace b5 := k8.all b5
        replace b6 := k8.all b6
        replace b7 := k8.all b7
        replace b8 := k8.all b8
        replace b9 := k8.all b9
        replace gg := kep_next gg k8
        replace zg := Nat.lt_of_lt_of_le zg k8.size
        replace zw := Nat.lt_of_lt_of_le zw k8.size
        clear hW8 k8
        go_wp2_with (first
          | ((with_reducible refine (FA.out _ (HL.out.kep (by repeat (first | with_reducible assumption | refine kep_more ?_ _ | refine kep_drew ?_ | refine kep_drewN ?_ _ | exact Kep.refl _ _)))).mono ?_); rintro e w4 ⟨rfl, rfl⟩)
          | ((with_reducible refine (FB.out _ (HL.out.kep (by repeat (first | with_reducible assumption | refine kep_more ?_ _ | refine kep_drew ?_ | refine kep_drewN ?_ _ | exact Kep.refl _ _)))).mono ?_); rintro e w4 ⟨rfl, rfl⟩)
          | ((with_reducible refine (JS.out _).mono ?_); rintro e w7 ⟨rfl, g7⟩; replace c0 := Kep.all g7 (Kep.all ((by repeat (first | with_reducible assumption | refine kep_more ?_ _ | refine kep_drew ?_ | refine kep_drewN ?_ _ | exact Kep.refl _ _)) : Kep W8.heap.size W8 _) c0); replace c1 := Kep.all g7 (Kep.all ((by repeat (first | with_reducible assumption | refine kep_more ?_ _ | refine kep_drew ?_ | refine kep_drewN ?_ _ | exact Kep.refl _ _)) : Kep W8.heap.size W8 _) c1); replace c2 := Kep.all g7 (Kep.all ((by repeat (first | with_reducible assumption | refine kep_more ?_ _ | refine kep_drew ?_ | refine kep_drewN ?_ _ | exact Kep.refl _ _)) : Kep W8.heap.size W8 _) c2); replace c3 := Kep.all g7 (Kep.all ((by repeat (first | with_reducible assumption | refine kep_more ?_ _ | refine kep_drew ?_ | refine kep_drewN ?_ _ | exact Kep.refl _ _)) : Kep W8.heap.size W8 _) c3); replace c4 := Kep.all g7 (Kep.all ((by repeat (first | with_reducible assumption | refine kep_more ?_ _ | refine kep_drew ?_ | refine kep_drewN ?_ _ | exact Kep.refl _ _)) : Kep W8.heap.size W8 _) c4); replace s0 := Kep.all g7 (Kep.all ((by repeat (first | with_reducible assumption | refine kep_more ?_ _ | refine kep_drew ?_ | refine kep_drewN ?_ _ | exact Kep.refl _ _)) : Kep W8.heap.size W8 _) s0); replace s4 := Kep.all g7 (Kep.all ((by repeat (first | with_reducible assumption | refine kep_more ?_ _ | refine kep_drew ?_ | refine kep_drewN ?_ _ | exact Kep.refl _ _)) : Kep W8.heap.size W8 _) s4); replace gg := kep_next ((by repeat (first | with_reducible assumption | refine kep_more ?_ _ | refine kep_drew ?_ | refine kep_drewN ?_ _ | exact Kep.refl _ _)) : Kep w.heap.size w _) g7)
          | ((with_reducible refine (JC.out _).mono ?_); rintro e w8 ⟨rfl, g8⟩; replace c0 := Kep.all g8 c0; replace c1 := Kep.all g8 c1; replace s0 := Kep.all g8 s0; replace gg := kep_next gg g8))
        go_quiet (fail)
        go_wp2_with fail
        go_roundw
        case rel => exact ⟨k + 1, by omega, by go_num, t1, rfl, Lib.hid ⟨by rw [HAT.out, ← HT.out, HKL.out, if_pos HE.out, HT1.out]; omega, (by repeat (first | with_reducible assumption | refine kep_more ?_ _ | refine kep_drew ?_ | refine kep_drewN ?_ _ | exact Kep.refl _ _))⟩⟩
        case measure => simp [RowKit.intOf]; omega
      · have q1 : (c.lo != x.k) = true := bne_iff_ne.2 e0
        have q3 : (c.lo == x.k) = false := beq_eq_false_iff_ne.2 e0
        have HE := Lib.hid e0
        clear e0
        by_cases e1 : c.hi = x.k
        · have HE1 := Lib.hid e1
          rw [e1] at c1 FB JS
          clear e1
          obtain ⟨t1, ht1⟩ : ∃ t1, t1 = t + d := ⟨_, rfl⟩
          have HT1 := Lib.hid ht1
          have f1 : wrap64 (t + d) = t1 := by unfold wrap64; omega
          have f2 : IntKind.i64.wrap (t + d) = t1 := by rw [IntKind.wrap_i64]; omega
          clear ht1 htb hdb
          go_quiet (fail)
          generalize hW8 : World.drewN W6 _ = W8
          have k8 : Kep W6.heap.size W6 W8 := by rw [← hW8]; exact kep_drewN (Kep.refl _ _) _
          replace c0 := k8.all c0
          replace c1 := k8.all c1
          replace c2 := k8.all c2
          replace c3 := k8.all c3
          replace c4 := k8.all c4
          replace s0 := k8.all s0
          replace s4 := k8.all s4
          replace a0 := k8.all a0
          replace a1 := k8.all a1
          replace a2 := k8.all a2
          replace a3 := k8.all a3
          replace a4 := k8.all a4
          replace a5 := k8.all a5
          replace a6 := k8.all a6
          replace a7 := k8.all a7
          replace a8 := k8.all a8
          replace a9 := k8.all a9
          replace b0 := k8.all b0
          replace b1 := k8.all b1
          replace b2 := k8.all b2
          replace b3 := k8.all b3
          replace b4 := k8.all b4
          replace b5 := k8.all b5
          replace b6 := k8.all b6
          replace b7 := k8.all b7
          replace b8 := k8.all b8
          replace b9 := k8.all b9
          replace gg := kep_next gg k8
          replace zg := Nat.lt_of_lt_of_le zg k8.size
          replace zw := Nat.lt_of_lt_of_le zw k8.size
          clear hW8 k8
          go_wp2_with (first
            | ((with_reducible refine (FA.out _ (HL.out.kep (by repeat (first | with_reducible assumption | refine kep_more ?_ _ | refine kep_drew ?_ | refine kep_drewN ?_ _ | exact Kep.refl _ _)))).mono ?_); rintro e w4 ⟨rfl, rfl⟩)
            | ((with_reducible refine (FB.out _ (HL.out.kep (by repeat (first | with_reducible assumption | refine kep_more ?_ _ | refine kep_drew ?_ | refine kep_drewN ?_ _ | exact Kep.refl _ _)))).mono ?_); rintro e w4 ⟨rfl, rfl⟩)
            | ((with_reducible refine (JS.out _).mono ?_); rintro e w7 ⟨rfl, g7⟩; replace c0 := Kep.all g7 (Kep.all ((by repeat (first | with_reducible assumption | refine kep_more ?_ _ | refine kep_drew ?_ | refine kep_drewN ?_ _ | exact Kep.refl _ _)) : Kep W8.heap.size W8 _) c0); replace c1 := Kep.all g7 (Kep.all ((by repeat (first | with_reducible assumption | refine kep_more ?_ _ | refine kep_drew ?_ | refine kep_drewN ?_ _ | exact Kep.refl _ _)) : Kep W8.heap.size W8 _) c1); replace c2 := Kep.all g7 (Kep.all ((by repeat (first | with_reducible assumption | refine kep_more ?_ _ | refine kep_drew ?_ | refine kep_drewN ?_ _ | exact Kep.refl _ _)) : Kep W8.heap.size W8 _) c2); replace c3 := Kep.all g7 (Kep.all ((by repeat (first | with_reducible assumption | refine kep_more ?_ _ | refine kep_drew ?_ | refine kep_drewN ?_ _ | exact Kep.refl _ _)) : Kep W8.heap.size W8 _) c3); replace c4 := Kep.all g7 (Kep.all ((by repeat (first | with_reducible assumption | refine kep_more ?_ _ | refine kep_drew ?_ | refine kep_drewN ?_ _ | exact Kep.refl _ _)) : Kep W8.heap.size W8 _) c4); replace s0 := Kep.all g7 (Kep.all ((by repeat (first | with_reducible assumption | refine kep_more ?_ _ | refine kep_drew ?_ | refine kep_drewN ?_ _ | exact Kep.refl _ _)) : Kep W8.heap.size W8 _) s0); replace s4 := Kep.all g7 (Kep.all ((by repeat (first | with_reducible assumption | refine kep_more ?_ _ | refine kep_drew ?_ | refine kep_drewN ?_ _ | exact Kep.refl _ _)) : Kep W8.heap.size W8 _) s4); replace gg := kep_next ((by repeat (first | with_reducible assumption | refine kep_more ?_ _ | refine kep_drew ?_ | refine kep_drewN ?_ _ | exact Kep.refl _ _)) : Kep w.heap.size w _) g7)
            | ((with_reducible refine (JC.out _).mono ?_); rintro e w8 ⟨rfl, g8⟩; replace c0 := Kep.all g8 c0; replace c1 := Kep.all g8 c1; replace s0 := Kep.all g8 s0; replace gg := kep_next gg g8))
          go_quiet (fail)
          go_wp2_with fail
          go_roundw
          case rel => exact ⟨k + 1, by omega, by go_num, t1, rfl, Lib.hid ⟨by rw [HAT.out, ← HT.out, HKL.out, if_neg HE.out, if_pos HE1.out, HT1.out], (by repeat (first | with_reducible assumption | refine kep_more ?_ _ | refine kep_drew ?_ | refine kep_drewN ?_ _ | exact Kep.refl _ _))⟩⟩
          case measure => simp [RowKit.intOf]; omega
        · have q2 : (c.hi != x.k) = true := bne_iff_ne.2 e1
          have HE1 := Lib.hid e1
          clear e1 htb hdb
          go_quiet (fail)
          go_wp2_with fail
          go_roundw
          case rel => exact ⟨k + 1, by omega, by go_num, t, rfl, Lib.hid ⟨by rw [HAT.out, ← HT.out, HKL.out, if_neg HE.out, if_neg HE1.out]; omega, (by repeat (first | with_reducible assumption | refine kep_more ?_ _ | refine kep_drew ?_ | refine kep_drewN ?_ _ | exact Kep.refl _ _))⟩⟩
          case measure => simp [RowKit.intOf]; omega
    · obtain rfl : k = nc := by omega
      have h1 := HP.out.1
      have gg := HP.out.2
      rw [List.take_of_length_le (by rw [HN.out]; omega)] at h1
      have H1 := Lib.hid h1
      clear h1
      go_wp2_with fail
      go_ret
      exact ⟨by rw [H1.out]; rfl, gg⟩
abbrev RSy (L : List Bd) (C : List Ct) (i : Nat) (x : Bd) : Prop := ∀ v l w, Lst w v L → Sq ctv 5 w l C → Calls Try.prog 26 #[v, l, .int .i64 i, .bool true] w fun e w' => e = .returned (.int .i64 (sumJ (·.ny) L C x)) ∧ Kep w.heap.size w w'
set_option maxRecDepth 100000 in
set_option maxHeartbeats 8000000 in
theorem rsj_y (L : List Bd) (hm : L.length ≤ 1000000) (HV : Hid (∀ x ∈ L, Vb x)) (HA : Hid (Asc L)) (C : List Ct) (hmC : C.length ≤ 100) (HR : Hid (∀ c ∈ C, RgC L c)) (i : Nat) (x : Bd) (hx : L[i]? = some x) : RSy L C i x := fun v l w h hl => by
  have HL := Lib.hid h
  obtain ⟨bc, cc, rfl, hc⟩ := hl
  have HC := Lib.hid hc
  obtain ⟨ba, ca, rfl⟩ := h.shape
  have FD := Lib.hid (fun key w h => find_any (.slice ba L.length ca) L key w h (by omega))
  have HLA := Lib.hid (fun (k : Nat) (y : Bd) (hy : L[k]? = some y) => h.at_ hy)
  obtain ⟨gl, off, rfl, qx⟩ := HLA.out i x hx
  have HLB : Hid (∀ (k : Nat) (y : Bd), L[k]? = some y → ∀ q, q < 10 → w.cell? ⟨gl, off + k * 10 + q, none⟩ = (vals y)[q]?) := Lib.hid fun k y hy => by
    obtain ⟨_, _, e, q⟩ := HLA.out k y hy
    injection e with e
    injection e with e1 e2
    subst e1 e2
    exact q
  have hxm := List.mem_of_getElem? hx
  have HXV := Lib.hid (HV.out x hxm)
  have HXL := Lib.hid (show look L x.k = some x from look_mem HA.out.once hxm)
  have HXM := Lib.hid hxm
  have hil : i < L.length := (List.getElem?_eq_some_iff.1 hx).1
  have hgl : gl < w.heap.size := World.block_lt_of_cell? _ _ (qx 0 (by decide))
  have HS0 := Lib.hid (qx 0 (by decide))
  have HS4 := Lib.hid (qx 4 (by decide))
  clear h hc HLA qx hx hxm
  generalize hnl : L.length = nl at *
  have HNL := Lib.hid hnl
  generalize hnc : C.length = nc at *
  have HN := Lib.hid hnc
  clear hnl hnc
  go_enter Try.func26, Try.ntmps26
  go_wp2_with fail
  go_loopw [9, 10] (fun n j wr => ∃ k : Nat, k ≤ nc ∧ j = .int .i64 k ∧ ∃ t : Int, n = .int .i64 t ∧ Hid (t = sumJ (·.ny) L (C.take k) x ∧ Kep w.heap.size w wr)) (fun _ j _ => nc - (RowKit.intOf j).toNat)
  case atStart => exact ⟨0, by omega, rfl, 0, rfl, Lib.hid ⟨by simp [sumJ, isum], Kep.refl _ _⟩⟩
  case round =>
    obtain ⟨k, hk, rfl, t, rfl, HP⟩ := hrel
    by_cases hlt : k < nc
    · have hb : C[k]? = some (C[k]'(by rw [HN.out]; exact hlt)) := List.getElem?_eq_getElem _
      generalize C[k]'(by rw [HN.out]; exact hlt) = c at hb
      obtain ⟨gc, oc, rfl, q⟩ := HC.out k c hb
      have gg := HP.out.2
      have hrc := HR.out c (List.mem_of_getElem? hb)
      obtain ⟨a, ha⟩ := Option.isSome_iff_exists.1 hrc.lo
      obtain ⟨b, hbb⟩ := Option.isSome_iff_exists.1 hrc.hi
      obtain ⟨ja, hja, hga⟩ := (place_eq L c.lo 0).2 a ha
      obtain ⟨jb, hjb, hgb⟩ := (place_eq L c.hi 0).2 b hbb
      rw [Nat.zero_add] at hja hjb
      have hjal : ja < nl := by have := (List.getElem?_eq_some_iff.1 hga).1; rw [HNL.out] at this; exact this
      have hjbl : jb < nl := by have := (List.getElem?_eq_some_iff.1 hgb).1; rw [HNL.out] at this; exact this
      have FA := Lib.hid (fun w h => (show Calls Try.prog 20 #[.slice (some ⟨gl, off, none⟩) nl ca, .int .u32 c.lo] w fun e w' => e = .returned (.int .i64 (ja : Int)) ∧ w = w' by rw [← hja]; exact FD.out c.lo w h))
      have FB := Lib.hid (fun w h => (show Calls Try.prog 20 #[.slice (some ⟨gl, off, none⟩) nl ca, .int .u32 c.hi] w fun e w' => e = .returned (.int .i64 (jb : Int)) ∧ w = w' by rw [← hjb]; exact FD.out c.hi w h))
      obtain ⟨js, hjs⟩ : ∃ js, js = stJ L c := ⟨_, rfl⟩
      obtain ⟨d, hd⟩ : ∃ d, d = chI js x.m c.ny := ⟨_, rfl⟩
      have hsb := stJ_bd HV.out hrc
      rw [← hjs] at hsb
      have JS := Lib.hid (jst (lo := c.lo) (hi := c.hi) (dp := c.dp) (t := js) (HV.out a (look_some ha).1) (HV.out b (look_some hbb).1) hrc.nx hrc.ny (by rw [hjs]; unfold stJ; rw [bdK_eq ha, bdK_eq hbb]))
      have JC := Lib.hid (jch (j := js) (i := x.m) (n := c.ny) (t := d) hsb ⟨HXV.out.m0, HXV.out.m1⟩ hrc.ny hd.symm)
      have hdb := chI_bd hsb ⟨HXV.out.m0, HXV.out.m1⟩ hrc.ny
      rw [← hd] at hdb
      have htb := sumJ_bd (f := (·.ny)) (C := C.take k) HV.out HXM.out (fun c hc => HR.out c (List.mem_of_mem_take hc)) (fun c hc => (HR.out c (List.mem_of_mem_take hc)).ny) (by rw [List.length_take]; omega)
      rw [← HP.out.1] at htb
      have HAT := Lib.hid (sumJ_at (f := (·.ny)) (L := L) (x := x) hb)
      have HT := Lib.hid HP.out.1
      have HKL : Hid (conJ (·.ny) L x c = if c.lo = x.k then -d else if c.hi = x.k then d else 0) := Lib.hid (by unfold conJ; rw [← hjs, ← hd])
      have hga2 := Lib.hid (HLB.out ja a hga)
      have hgb2 := Lib.hid (HLB.out jb b hgb)
      have HNE := Lib.hid (show c.lo ≠ c.hi by have := hrc.lt; omega)
      have hgc : gc < w.heap.size := World.block_lt_of_cell? _ _ (q 0 _ rfl)
      have HQ := Lib.hid q
      have gsz := gg.size
      clear hb hrc ha hbb hja hjb hga hgb hjs hd hsb q HP
      have i1 : (0 : Int) ≤ (ja : Int) := by omega
      have i2 : (ja : Int) < (nl : Int) := by omega
      have i3 : (0 : Int) ≤ (jb : Int) := by omega
      have i4 : (jb : Int) < (nl : Int) := by omega
      have i5 : (0 : Int) ≤ (i : Int) := by omega
      have i6 : (i : Int) < (nl : Int) := by omega
      have t0 : wr.cell? ⟨gc, oc + k * 5, none⟩ = some (.int .u32 c.lo) := gg.all (HQ.out 0 _ rfl)
      have t1 : wr.cell? ⟨gc, oc + k * 5 + 1, none⟩ = some (.int .u32 c.hi) := gg.all (HQ.out 1 _ rfl)
      have t2 : wr.cell? ⟨gc, oc + k * 5 + 2, none⟩ = some (.int .i32 c.nx) := gg.all (HQ.out 2 _ rfl)
      have t3 : wr.cell? ⟨gc, oc + k * 5 + 3, none⟩ = some (.int .i32 c.ny) := gg.all (HQ.out 3 _ rfl)
      have t4 : wr.cell? ⟨gc, oc + k * 5 + 4, none⟩ = some (.int .i32 c.dp) := gg.all (HQ.out 4 _ rfl)
      go_wp2_with fail
      generalize hW : World.alloc wr _ = W6
      have kW : Kep wr.heap.size wr W6 := by rw [← hW]; exact kep_more (Kep.refl _ _) _
      have c0 : W6.cell? ⟨wr.heap.size, 0, none⟩ = some (.int .u32 c.lo) := by rw [← hW, World.cell?_alloc_at _ _ _ _ (by simp)]; rfl
      have c1 : W6.cell? ⟨wr.heap.size, 1, none⟩ = some (.int .u32 c.hi) := by rw [← hW, World.cell?_alloc_at _ _ _ _ (by simp)]; rfl
      have c2 : W6.cell? ⟨wr.heap.size, 2, none⟩ = some (.int .i32 c.nx) := by rw [← hW, World.cell?_alloc_at _ _ _ _ (by simp)]; rfl
      have c3 : W6.cell? ⟨wr.heap.size, 3, none⟩ = some (.int .i32 c.ny) := by rw [← hW, World.cell?_alloc_at _ _ _ _ (by simp)]; rfl
      have c4 : W6.cell? ⟨wr.heap.size, 4, none⟩ = some (.int .i32 c.dp) := by rw [← hW, World.cell?_alloc_at _ _ _ _ (by simp)]; rfl
      clear hW
      have g6 : Kep w.heap.size w W6 := gg.trans (kW.mono gsz)
      have s0 : W6.cell? ⟨gl, off + i * 10, none⟩ = some (.int .u32 x.k) := g6.all HS0.out
      have s4 : W6.cell? ⟨gl, off + i * 10 + 4, none⟩ = some (.int .i32 x.m) := g6.all HS4.out
      have a0 : W6.cell? ⟨gl, off + ja * 10, none⟩ = some (.int .u32 a.k) := g6.all (hga2.out 0 (by decide))
      have a1 : W6.cell? ⟨gl, off + ja * 10 + 1, none⟩ = some (.int .i32 a.r) := g6.all (hga2.out 1 (by decide))
      have a2 : W6.cell? ⟨gl, off + ja * 10 + 2, none⟩ = some (.int .i32 a.ax) := g6.all (hga2.out 2 (by decide))
      have a3 : W6.cell? ⟨gl, off + ja * 10 + 3, none⟩ = some (.int .i32 a.ay) := g6.all (hga2.out 3 (by decide))
      have a4 : W6.cell? ⟨gl, off + ja * 10 + 4, none⟩ = some (.int .i32 a.m) := g6.all (hga2.out 4 (by decide))
      have a5 : W6.cell? ⟨gl, off + ja * 10 + 5, none⟩ = some (.int .i32 a.o) := g6.all (hga2.out 5 (by decide))
      have a6 : W6.cell? ⟨gl, off + ja * 10 + 6, none⟩ = some (.int .i32 a.px) := g6.all (hga2.out 6 (by decide))
      have a7 : W6.cell? ⟨gl, off + ja * 10 + 7, none⟩ = some (.int .i32 a.py) := g6.all (hga2.out 7 (by decide))
      have a8 : W6.cell? ⟨gl, off + ja * 10 + 8, none⟩ = some (.int .i32 a.vx) := g6.all (hga2.out 8 (by decide))
      have a9 : W6.cell? ⟨gl, off + ja * 10 + 9, none⟩ = some (.int .i32 a.vy) := g6.all (hga2.out 9 (by decide))
      have b0 : W6.cell? ⟨gl, off + jb * 10, none⟩ = some (.int .u32 b.k) := g6.all (hgb2.out 0 (by decide))
      have b1 : W6.cell? ⟨gl, off + jb * 10 + 1, none⟩ = some (.int .i32 b.r) := g6.all (hgb2.out 1 (by decide))
      have b2 : W6.cell? ⟨gl, off + jb * 10 + 2, none⟩ = some (.int .i32 b.ax) := g6.all (hgb2.out 2 (by decide))
      have b3 : W6.cell? ⟨gl, off + jb * 10 + 3, none⟩ = some (.int .i32 b.ay) := g6.all (hgb2.out 3 (by decide))
      have b4 : W6.cell? ⟨gl, off + jb * 10 + 4, none⟩ = some (.int .i32 b.m) := g6.all (hgb2.out 4 (by decide))
      have b5 : W6.cell? ⟨gl, off + jb * 10 + 5, none⟩ = some (.int .i32 b.o) := g6.all (hgb2.out 5 (by decide))
      have b6 : W6.cell? ⟨gl, off + jb * 10 + 6, none⟩ = some (.int .i32 b.px) := g6.all (hgb2.out 6 (by decide))
      have b7 : W6.cell? ⟨gl, off + jb * 10 + 7, none⟩ = some (.int .i32 b.py) := g6.all (hgb2.out 7 (by decide))
      have b8 : W6.cell? ⟨gl, off + jb * 10 + 8, none⟩ = some (.int .i32 b.vx) := g6.all (hgb2.out 8 (by decide))
      have b9 : W6.cell? ⟨gl, off + jb * 10 + 9, none⟩ = some (.int .i32 b.vy) := g6.all (hgb2.out 9 (by decide))
      have zg : gl < W6.heap.size := World.block_lt_of_cell? _ _ s0
      have zw : wr.heap.size < W6.heap.size := World.block_lt_of_cell? _ _ c0
      clear t0 t1 t2 t3 t4 kW gg gsz
      have gg := g6
      clear g6
      by_cases e0 : c.lo = x.k
      · have HE := Lib.hid e0
        rw [e0] at c0 FA JS
        clear e0
        obtain ⟨t1, ht1⟩ : ∃ t1, t1 = t - d := ⟨_, rfl⟩
        have HT1 := Lib.hid ht1
        have f1 : wrap64 (t - d) = t1 := by unfold wrap64; omega
        have f2 : IntKind.i64.wrap (t - d) = t1 := by rw [IntKind.wrap_i64]; omega
        clear ht1 htb hdb
        go_quiet (fail)
        generalize hW8 : World.drewN W6 _ = W8
        have k8 : Kep W6.heap.size W6 W8 := by rw [← hW8]; exact kep_drewN (Kep.refl _ _) _
        replace c0 := k8.all c0
        replace c1 := k8.all c1
        replace c2 := k8.all c2
        replace c3 := k8.all c3
        replace c4 := k8.all c4
        replace s0 := k8.all s0
        replace s4 := k8.all s4
        replace a0 := k8.all a0
        replace a1 := k8.all a1
        replace a2 := k8.all a2
        replace a3 := k8.all a3
        replace a4 := k8.all a4
        replace a5 := k8.all a5
        replace a6 := k8.all a6
        replace a7 := k8.all a7
        replace a8 := k8.all a8
        replace a9 := k8.all a9
        replace b0 := k8.all b0
        replace b1 := k8.all b1
        replace b2 := k8.all b2
        replace b3 := k8.all b3
        replace b4 := k8.all b4
        replace b5 := k8.all b5
        replace b6 := k8.all b6
        replace b7 := k8.all b7
        replace b8 := k8.all b8
        replace b9 := k8.all b9
        replace gg := kep_next gg k8
        replace zg := Nat.lt_of_lt_of_le zg k8.size
        replace zw := Nat.lt_of_lt_of_le zw k8.size
        clear hW8 k8
        go_wp2_with (first
          | ((with_reducible refine (FA.out _ (HL.out.kep (by repeat (first | with_reducible assumption | refine kep_more ?_ _ | refine kep_drew ?_ | refine kep_drewN ?_ _ | exact Kep.refl _ _)))).mono ?_); rintro e w4 ⟨rfl, rfl⟩)
          | ((with_reducible refine (FB.out _ (HL.out.kep (by repeat (first | with_reducible assumption | refine kep_more ?_ _ | refine kep_drew ?_ | refine kep_drewN ?_ _ | exact Kep.refl _ _)))).mono ?_); rintro e w4 ⟨rfl, rfl⟩)
          | ((with_reducible refine (JS.out _).mono ?_); rintro e w7 ⟨rfl, g7⟩; replace c0 := Kep.all g7 (Kep.all ((by repeat (first | with_reducible assumption | refine kep_more ?_ _ | refine kep_drew ?_ | refine kep_drewN ?_ _ | exact Kep.refl _ _)) : Kep W8.heap.size W8 _) c0); replace c1 := Kep.all g7 (Kep.all ((by repeat (first | with_reducible assumption | refine kep_more ?_ _ | refine kep_drew ?_ | refine kep_drewN ?_ _ | exact Kep.refl _ _)) : Kep W8.heap.size W8 _) c1); replace c2 := Kep.all g7 (Kep.all ((by repeat (first | with_reducible assumption | refine kep_more ?_ _ | refine kep_drew ?_ | refine kep_drewN ?_ _ | exact Kep.refl _ _)) : Kep W8.heap.size W8 _) c2); replace c3 := Kep.all g7 (Kep.all ((by repeat (first | with_reducible assumption | refine kep_more ?_ _ | refine kep_drew ?_ | refine kep_drewN ?_ _ | exact Kep.refl _ _)) : Kep W8.heap.size W8 _) c3); replace c4 := Kep.all g7 (Kep.all ((by repeat (first | with_reducible assumption | refine kep_more ?_ _ | refine kep_drew ?_ | refine kep_drewN ?_ _ | exact Kep.refl _ _)) : Kep W8.heap.size W8 _) c4); replace s0 := Kep.all g7 (Kep.all ((by repeat (first | with_reducible assumption | refine kep_more ?_ _ | refine kep_drew ?_ | refine kep_drewN ?_ _ | exact Kep.refl _ _)) : Kep W8.heap.size W8 _) s0); replace s4 := Kep.all g7 (Kep.all ((by repeat (first | with_reducible assumption | refine kep_more ?_ _ | refine kep_drew ?_ | refine kep_drewN ?_ _ | exact Kep.refl _ _)) : Kep W8.heap.size W8 _) s4); replace gg := kep_next ((by repeat (first | with_reducible assumption | refine kep_more ?_ _ | refine kep_drew ?_ | refine kep_drewN ?_ _ | exact Kep.refl _ _)) : Kep w.heap.size w _) g7)
          | ((with_reducible refine (JC.out _).mono ?_); rintro e w8 ⟨rfl, g8⟩; replace c0 := Kep.all g8 c0; replace c1 := Kep.all g8 c1; replace s0 := Kep.all g8 s0; replace gg := kep_next gg g8))
        go_quiet (fail)
        go_wp2_with fail
        go_roundw
        case rel => exact ⟨k + 1, by omega, by go_num, t1, rfl, Lib.hid ⟨by rw [HAT.out, ← HT.out, HKL.out, if_pos HE.out, HT1.out]; omega, (by repeat (first | with_reducible assumption | refine kep_more ?_ _ | refine kep_drew ?_ | refine kep_drewN ?_ _ | exact Kep.refl _ _))⟩⟩
        case measure => simp [RowKit.intOf]; omega
      · have q1 : (c.lo != x.k) = true := bne_iff_ne.2 e0
        have q3 : (c.lo == x.k) = false := beq_eq_false_iff_ne.2 e0
        have HE := Lib.hid e0
        clear e0
        by_cases e1 : c.hi = x.k
        · have HE1 := Lib.hid e1
          rw [e1] at c1 FB JS
          clear e1
          obtain ⟨t1, ht1⟩ : ∃ t1, t1 = t + d := ⟨_, rfl⟩
          have HT1 := Lib.hid ht1
          have f1 : wrap64 (t + d) = t1 := by unfold wrap64; omega
          have f2 : IntKind.i64.wrap (t + d) = t1 := by rw [IntKind.wrap_i64]; omega
          clear ht1 htb hdb
          go_quiet (fail)
          generalize hW8 : World.drewN W6 _ = W8
          have k8 : Kep W6.heap.size W6 W8 := by rw [← hW8]; exact kep_drewN (Kep.refl _ _) _
          replace c0 := k8.all c0
          replace c1 := k8.all c1
          replace c2 := k8.all c2
          replace c3 := k8.all c3
          replace c4 := k8.all c4
          replace s0 := k8.all s0
          replace s4 := k8.all s4
          replace a0 := k8.all a0
          replace a1 := k8.all a1
          replace a2 := k8.all a2
          replace a3 := k8.all a3
          replace a4 := k8.all a4
          replace a5 := k8.all a5
          replace a6 := k8.all a6
          replace a7 := k8.all a7
          replace a8 := k8.all a8
          replace a9 := k8.all a9
          replace b0 := k8.all b0
          replace b1 := k8.all b1
          replace b2 := k8.all b2
          replace b3 := k8.all b3
          replace b4 := k8.all b4
          replace b5 := k8.all b5
          replace b6 := k8.all b6
          replace b7 := k8.all b7
          replace b8 := k8.all b8
          replace b9 := k8.all b9
          replace gg := kep_next gg k8
          replace zg := Nat.lt_of_lt_of_le zg k8.size
          replace zw := Nat.lt_of_lt_of_le zw k8.size
          clear hW8 k8
          go_wp2_with (first
            | ((with_reducible refine (FA.out _ (HL.out.kep (by repeat (first | with_reducible assumption | refine kep_more ?_ _ | refine kep_drew ?_ | refine kep_drewN ?_ _ | exact Kep.refl _ _)))).mono ?_); rintro e w4 ⟨rfl, rfl⟩)
            | ((with_reducible refine (FB.out _ (HL.out.kep (by repeat (first | with_reducible assumption | refine kep_more ?_ _ | refine kep_drew ?_ | refine kep_drewN ?_ _ | exact Kep.refl _ _)))).mono ?_); rintro e w4 ⟨rfl, rfl⟩)
            | ((with_reducible refine (JS.out _).mono ?_); rintro e w7 ⟨rfl, g7⟩; replace c0 := Kep.all g7 (Kep.all ((by repeat (first | with_reducible assumption | refine kep_more ?_ _ | refine kep_drew ?_ | refine kep_drewN ?_ _ | exact Kep.refl _ _)) : Kep W8.heap.size W8 _) c0); replace c1 := Kep.all g7 (Kep.all ((by repeat (first | with_reducible assumption | refine kep_more ?_ _ | refine kep_drew ?_ | refine kep_drewN ?_ _ | exact Kep.refl _ _)) : Kep W8.heap.size W8 _) c1); replace c2 := Kep.all g7 (Kep.all ((by repeat (first | with_reducible assumption | refine kep_more ?_ _ | refine kep_drew ?_ | refine kep_drewN ?_ _ | exact Kep.refl _ _)) : Kep W8.heap.size W8 _) c2); replace c3 := Kep.all g7 (Kep.all ((by repeat (first | with_reducible assumption | refine kep_more ?_ _ | refine kep_drew ?_ | refine kep_drewN ?_ _ | exact Kep.refl _ _)) : Kep W8.heap.size W8 _) c3); replace c4 := Kep.all g7 (Kep.all ((by repeat (first | with_reducible assumption | refine kep_more ?_ _ | refine kep_drew ?_ | refine kep_drewN ?_ _ | exact Kep.refl _ _)) : Kep W8.heap.size W8 _) c4); replace s0 := Kep.all g7 (Kep.all ((by repeat (first | with_reducible assumption | refine kep_more ?_ _ | refine kep_drew ?_ | refine kep_drewN ?_ _ | exact Kep.refl _ _)) : Kep W8.heap.size W8 _) s0); replace s4 := Kep.all g7 (Kep.all ((by repeat (first | with_reducible assumption | refine kep_more ?_ _ | refine kep_drew ?_ | refine kep_drewN ?_ _ | exact Kep.refl _ _)) : Kep W8.heap.size W8 _) s4); replace gg := kep_next ((by repeat (first | with_reducible assumption | refine kep_more ?_ _ | refine kep_drew ?_ | refine kep_drewN ?_ _ | exact Kep.refl _ _)) : Kep w.heap.size w _) g7)
            | ((with_reducible refine (JC.out _).mono ?_); rintro e w8 ⟨rfl, g8⟩; replace c0 := Kep.all g8 c0; replace c1 := Kep.all g8 c1; replace s0 := Kep.all g8 s0; replace gg := kep_next gg g8))
          go_quiet (fail)
          go_wp2_with fail
          go_roundw
          case rel => exact ⟨k + 1, by omega, by go_num, t1, rfl, Lib.hid ⟨by rw [HAT.out, ← HT.out, HKL.out, if_neg HE.out, if_pos HE1.out, HT1.out], (by repeat (first | with_reducible assumption | refine kep_more ?_ _ | refine kep_drew ?_ | refine kep_drewN ?_ _ | exact Kep.refl _ _))⟩⟩
          case measure => simp [RowKit.intOf]; omega
        · have q2 : (c.hi != x.k) = true := bne_iff_ne.2 e1
          have HE1 := Lib.hid e1
          clear e1 htb hdb
          go_quiet (fail)
          go_wp2_with fail
          go_roundw
          case rel => exact ⟨k + 1, by omega, by go_num, t, rfl, Lib.hid ⟨by rw [HAT.out, ← HT.out, HKL.out, if_neg HE.out, if_neg HE1.out]; omega, (by repeat (first | with_reducible assumption | refine kep_more ?_ _ | refine kep_drew ?_ | refine kep_drewN ?_ _ | exact Kep.refl _ _))⟩⟩
          case measure => simp [RowKit.intOf]; omega
    · obtain rfl : k = nc := by omega
      have h1 := HP.out.1
      have gg := HP.out.2
      rw [List.take_of_length_le (by rw [HN.out]; omega)] at h1
      have H1 := Lib.hid h1
      clear h1
      go_wp2_with fail
      go_ret
      exact ⟨by rw [H1.out]; rfl, gg⟩
end Go.Proofs.Ytbeaoogjcgplnaa
