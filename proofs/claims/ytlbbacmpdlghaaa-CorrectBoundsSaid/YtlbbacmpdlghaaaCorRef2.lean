/-
  Package correct: the reference's Shifts.
-/
import Derived.Test.YtlbbacmpdlghaaaCorRef1
import Derived.Test.YtlbbacmpdlghaaaJ08PairsRef2
import Derived.Test.YtlbbacmpdlghaaaJ05GridMath
import Derived.Deep.DeepCutAuto
import Derived.Deep.QuietTactic
import Derived.BigQuiet
namespace Go.Proofs.Ytlbbacmpdlghaaa
open Go.RowKit Go.Lib

theorem info_shift : (Try.prog.info? 56).map (fun i => (i.zero, i.size, i.bytes)) = some (some (.agg #[.int .i64 0, .int .i64 0]), 2, 16) := by kernel_rfl
theorem i64_bd {p : Int} (h : -439777755136 ≤ p ∧ p ≤ 439777755136) : I64 p := by unfold I64; omega
theorem wr_nr {n : Int} (h : Nr n) : IntKind.i64.wrap n = n := by rw [IntKind.wrap_i64]; omega
theorem wr_p {p : Int} (h : -439777755136 ≤ p ∧ p ≤ 439777755136) : IntKind.i64.wrap p = p := by rw [IntKind.wrap_i64]; omega
theorem neg_bd {f : Int} (hf : -6710476 ≤ f ∧ f ≤ 6710476) : -6710476 ≤ -f ∧ -f ≤ 6710476 := by omega
theorem wr_neg {f : Int} (hf : -6710476 ≤ f ∧ f ≤ 6710476) : wrap64 (-f) = -f ∧ IntKind.i64.wrap (-f) = -f := by
  rw [IntKind.wrap_i64]
  unfold wrap64
  omega
theorem wr_add {t f : Int} (ht : -671047600 ≤ t ∧ t ≤ 671047600) (hf : -6710476 ≤ f ∧ f ≤ 6710476) : wrap64 (t + f) = t + f ∧ IntKind.i64.wrap (t + f) = t + f := by
  rw [IntKind.wrap_i64]
  unfold wrap64
  omega
abbrev RSf (L : List Bd) (C : List Ct) : Prop := ∀ v l w, Lst w v L → Sq ctv 5 w l C → Calls Try.prog 19 #[v, l] w fun e w' => ∃ v', e = .returned v' ∧ Sq shv 2 w' v' (shfL L C) ∧ Kep w.heap.size w w'
set_option maxRecDepth 100000 in
set_option maxHeartbeats 8000000 in
theorem rsf (L : List Bd) (hm : L.length ≤ 1000) (HV : Hid (∀ x ∈ L, Vb x)) (HA : Hid (Asc L)) (C : List Ct) (hmC : C.length ≤ 100) (HR : Hid (∀ c ∈ C, RsC L c)) : RSf L C := fun v l w h hl => by
  have HL := Lib.hid h
  obtain ⟨bc, cc, rfl, hc⟩ := hl
  have HC := Lib.hid hc
  obtain ⟨ba, ca, rfl⟩ := h.shape
  have FD := Lib.hid (fun key w h => find_any (.slice ba L.length ca) L key w h (by omega))
  have HLA := Lib.hid (fun (k : Nat) (y : Bd) (hy : L[k]? = some y) => h.at_ hy)
  have HLN := Lib.hid (fun (k : Nat) (hk : k ≤ L.length) => (show ((L.take k).map (shfB L C)).length = k by rw [List.length_map, List.length_take]; omega))
  have HLK := Lib.hid (fun (x : Bd) (hx : x ∈ L) => (show look L x.k = some x from look_mem HA.out.once hx))
  clear h hc
  generalize hnl : L.length = nl at *
  have HNL := Lib.hid hnl
  generalize hnc : C.length = nc at *
  have HN := Lib.hid hnc
  clear hnl hnc
  go_enter Try.func19, Try.ntmps19
  go_wp2_with fail
  go_loopw [5, 6] (fun out i wr => ∃ k : Nat, k ≤ nl ∧ i = .int .i64 k ∧ Hid (wr.ownsRow w.heap.size 56 2 out ((L.take k).map (shfB L C)).length (((L.take k).map (shfB L C)).flatMap shv) ∧ Kep w.heap.size w wr)) (fun _ i _ => nl - (RowKit.intOf i).toNat)
  case atStart => exact ⟨0, by omega, rfl, Lib.hid ⟨World.ownsRow_nil _ _ _ _, Kep.refl _ _⟩⟩
  case round =>
    obtain ⟨k, hk, rfl, HP⟩ := hrel
    by_cases hlt : k < nl
    · have hbx : L[k]? = some (L[k]'(by rw [HNL.out]; exact hlt)) := List.getElem?_eq_getElem _
      generalize L[k]'(by rw [HNL.out]; exact hlt) = x at hbx
      obtain ⟨gl, off, rfl, qx⟩ := HLA.out k x hbx
      have HLB : Hid (∀ (k : Nat) (y : Bd), L[k]? = some y → ∀ q, q < 10 → w.cell? ⟨gl, off + k * 10 + q, none⟩ = (vals y)[q]?) := Lib.hid fun k y hy => by
        obtain ⟨_, _, e, q⟩ := HLA.out k y hy
        injection e with e
        injection e with e1 e2
        subst e1 e2
        exact q
      have hxm := List.mem_of_getElem? hbx
      have HXV := Lib.hid (HV.out x hxm)
      have HXM := Lib.hid hxm
      have HTX := Lib.hid (show (L.take (k + 1)).map (shfB L C) = (L.take k).map (shfB L C) ++ [shfB L C x] by rw [List.take_add_one, hbx, List.map_append]; rfl)
      have HS0 := Lib.hid (qx 0 (by decide))
      have HS4 := Lib.hid (qx 4 (by decide))
      obtain ⟨wd, hwd⟩ : ∃ z, z = wr := ⟨_, rfl⟩
      subst hwd
      have HO := Lib.hid HP.out.1
      have G1 := Lib.hid HP.out.2
      clear HP qx hbx hxm
      go_wp2_with fail
      generalize hW : World.alloc wd _ = Wb
      have HB0 : Hid (ZC Wb wd.heap.size [.int .i64 0, .int .i64 0] ∧ Kep wd.heap.size wd Wb) := Lib.hid (by rw [← hW]; exact ⟨zc_new _ _ _, kep_more (Kep.refl _ _) _⟩)
      clear hW
      go_loopw [8] (fun j wr => ∃ q : Nat, q ≤ nc ∧ j = .int .i64 q ∧ Hid (∃ t1 t2 : Int, t1 = shfI (·.nx) L (C.take q) x ∧ t2 = shfI (·.ny) L (C.take q) x ∧ ZC wr wd.heap.size [.int .i64 t1, .int .i64 t2] ∧ Kep wd.heap.size wd wr)) (fun j _ => nc - (RowKit.intOf j).toNat)
      case atStart => exact ⟨0, by omega, rfl, Lib.hid ⟨0, 0, by simp [shfI, isum], by simp [shfI, isum], HB0.out.1, HB0.out.2⟩⟩
      case round =>
        obtain ⟨q, hq, rfl, HP⟩ := hrel
        obtain ⟨t1, t2, h1, h2, Zs, g6⟩ := HP.out
        by_cases hlt2 : q < nc
        · have hb : C[q]? = some (C[q]'(by rw [HN.out]; exact hlt2)) := List.getElem?_eq_getElem _
          generalize C[q]'(by rw [HN.out]; exact hlt2) = c at hb
          obtain ⟨gc, oc, rfl, qc⟩ := HC.out q c hb
          have hrc := HR.out c (List.mem_of_getElem? hb)
          obtain ⟨a, ha⟩ := Option.isSome_iff_exists.1 hrc.lo
          obtain ⟨b, hbb⟩ := Option.isSome_iff_exists.1 hrc.hi
          obtain ⟨ja, hja, hga⟩ := (place_eq L c.lo 0).2 a ha
          obtain ⟨jb, hjb, hgb⟩ := (place_eq L c.hi 0).2 b hbb
          rw [Nat.zero_add] at hja hjb
          have hjal : ja < nl := by have := (List.getElem?_eq_some_iff.1 hga).1; rw [HNL.out] at this; exact this
          have hjbl : jb < nl := by have := (List.getElem?_eq_some_iff.1 hgb).1; rw [HNL.out] at this; exact this
          have FA := Lib.hid (fun w h => (show Calls Try.prog 11 #[.slice (some ⟨gl, off, none⟩) nl ca, .int .u32 c.lo] w fun e w' => e = .returned (.int .i64 (ja : Int)) ∧ w = w' by rw [← hja]; exact FD.out c.lo w h))
          have FB := Lib.hid (fun w h => (show Calls Try.prog 11 #[.slice (some ⟨gl, off, none⟩) nl ca, .int .u32 c.hi] w fun e w' => e = .returned (.int .i64 (jb : Int)) ∧ w = w' by rw [← hjb]; exact FD.out c.hi w h))
          obtain ⟨n, hn⟩ : ∃ n, n = shI c.dp a b x.m := ⟨_, rfl⟩
          have SH := Lib.hid (rsh (lo := c.lo) (hi := c.hi) (nx := c.nx) (ny := c.ny) (t := n) (HV.out a (look_some ha).1) (HV.out b (look_some hbb).1) hrc.dp ⟨HXV.out.m0, HXV.out.m1⟩ hn.symm)
          have HOS : Hid (c.lo = x.k ∨ c.hi = x.k → 0 ≤ n ∧ n ≤ 6710476) := Lib.hid (fun hk => by
            have := own_share HLK.out HV.out HXM.out hrc hk
            rw [bdK_eq ha, bdK_eq hbb, ← hn] at this
            exact this)
          have hb1 := shf_bd (f := (·.nx)) (C := C.take q) HLK.out HV.out HXM.out (fun c hc => HR.out c (List.mem_of_mem_take hc)) (fun c hc => (HR.out c (List.mem_of_mem_take hc)).nx) (by rw [List.length_take]; omega)
          have hb2 := shf_bd (f := (·.ny)) (C := C.take q) HLK.out HV.out HXM.out (fun c hc => HR.out c (List.mem_of_mem_take hc)) (fun c hc => (HR.out c (List.mem_of_mem_take hc)).ny) (by rw [List.length_take]; omega)
          rw [← h1] at hb1
          rw [← h2] at hb2
          have HA1 := Lib.hid (shf_at (f := (·.nx)) (L := L) (x := x) hb)
          have HA2 := Lib.hid (shf_at (f := (·.ny)) (L := L) (x := x) hb)
          rw [conS_at ha hbb, ← hn, ← h1] at HA1
          rw [conS_at ha hbb, ← hn, ← h2] at HA2
          have hga2 := Lib.hid (HLB.out ja a hga)
          have hgb2 := Lib.hid (HLB.out jb b hgb)
          have hN1 := hrc.nx
          have hN2 := hrc.ny
          have hgc : gc < w.heap.size := World.block_lt_of_cell? _ _ (qc 0 _ rfl)
          have gw := G1.out.trans (g6.mono G1.out.size)
          have t3_0 : wr.cell? ⟨gc, oc + q * 5, none⟩ = some (.int .u32 c.lo) := gw.all (qc 0 _ rfl)
          have t3_1 : wr.cell? ⟨gc, oc + q * 5 + 1, none⟩ = some (.int .u32 c.hi) := gw.all (qc 1 _ rfl)
          have t3_2 : wr.cell? ⟨gc, oc + q * 5 + 2, none⟩ = some (.int .i32 c.nx) := gw.all (qc 2 _ rfl)
          have t3_3 : wr.cell? ⟨gc, oc + q * 5 + 3, none⟩ = some (.int .i32 c.ny) := gw.all (qc 3 _ rfl)
          have t3_4 : wr.cell? ⟨gc, oc + q * 5 + 4, none⟩ = some (.int .i32 c.dp) := gw.all (qc 4 _ rfl)
          have z6 := g6.size
          clear hb hrc ha hbb hja hjb hga hgb hn qc HP h1 h2
          have i1 : (0 : Int) ≤ (ja : Int) := by omega
          have i2 : (ja : Int) < (nl : Int) := by omega
          have i3 : (0 : Int) ≤ (jb : Int) := by omega
          have i4 : (jb : Int) < (nl : Int) := by omega
          have i5 : (0 : Int) ≤ (k : Int) := by omega
          have i6 : (k : Int) < (nl : Int) := by omega
          go_wp2_with fail
          generalize hW : World.alloc wr _ = W6
          have Zc : ZC W6 wr.heap.size [.int .u32 c.lo, .int .u32 c.hi, .int .i32 c.nx, .int .i32 c.ny, .int .i32 c.dp] := by rw [← hW]; exact zc_new _ _ _
          have kW : Kep wr.heap.size wr W6 := by rw [← hW]; exact kep_more (Kep.refl _ _) _
          clear hW
          replace Zs := Zs.kep kW
          replace gw := gw.trans (kW.mono (Nat.le_trans G1.out.size z6))
          replace g6 := g6.trans (kW.mono z6)
          replace z6 := Nat.le_trans z6 kW.size
          have c0 := Zc.i (i := 0) rfl
          have c1 := Zc.i (i := 1) rfl
          have s0 : W6.cell? ⟨gl, off + k * 10, none⟩ = some (.int .u32 x.k) := gw.all HS0.out
          have s4 : W6.cell? ⟨gl, off + k * 10 + 4, none⟩ = some (.int .i32 x.m) := gw.all HS4.out
          have a0 : W6.cell? ⟨gl, off + ja * 10, none⟩ = some (.int .u32 a.k) := gw.all (hga2.out 0 (by decide))
          have a1 : W6.cell? ⟨gl, off + ja * 10 + 1, none⟩ = some (.int .i32 a.r) := gw.all (hga2.out 1 (by decide))
          have a2 : W6.cell? ⟨gl, off + ja * 10 + 2, none⟩ = some (.int .i32 a.ax) := gw.all (hga2.out 2 (by decide))
          have a3 : W6.cell? ⟨gl, off + ja * 10 + 3, none⟩ = some (.int .i32 a.ay) := gw.all (hga2.out 3 (by decide))
          have a4 : W6.cell? ⟨gl, off + ja * 10 + 4, none⟩ = some (.int .i32 a.m) := gw.all (hga2.out 4 (by decide))
          have a5 : W6.cell? ⟨gl, off + ja * 10 + 5, none⟩ = some (.int .i32 a.o) := gw.all (hga2.out 5 (by decide))
          have a6 : W6.cell? ⟨gl, off + ja * 10 + 6, none⟩ = some (.int .i32 a.px) := gw.all (hga2.out 6 (by decide))
          have a7 : W6.cell? ⟨gl, off + ja * 10 + 7, none⟩ = some (.int .i32 a.py) := gw.all (hga2.out 7 (by decide))
          have a8 : W6.cell? ⟨gl, off + ja * 10 + 8, none⟩ = some (.int .i32 a.vx) := gw.all (hga2.out 8 (by decide))
          have a9 : W6.cell? ⟨gl, off + ja * 10 + 9, none⟩ = some (.int .i32 a.vy) := gw.all (hga2.out 9 (by decide))
          have b0 : W6.cell? ⟨gl, off + jb * 10, none⟩ = some (.int .u32 b.k) := gw.all (hgb2.out 0 (by decide))
          have b1 : W6.cell? ⟨gl, off + jb * 10 + 1, none⟩ = some (.int .i32 b.r) := gw.all (hgb2.out 1 (by decide))
          have b2 : W6.cell? ⟨gl, off + jb * 10 + 2, none⟩ = some (.int .i32 b.ax) := gw.all (hgb2.out 2 (by decide))
          have b3 : W6.cell? ⟨gl, off + jb * 10 + 3, none⟩ = some (.int .i32 b.ay) := gw.all (hgb2.out 3 (by decide))
          have b4 : W6.cell? ⟨gl, off + jb * 10 + 4, none⟩ = some (.int .i32 b.m) := gw.all (hgb2.out 4 (by decide))
          have b5 : W6.cell? ⟨gl, off + jb * 10 + 5, none⟩ = some (.int .i32 b.o) := gw.all (hgb2.out 5 (by decide))
          have b6 : W6.cell? ⟨gl, off + jb * 10 + 6, none⟩ = some (.int .i32 b.px) := gw.all (hgb2.out 6 (by decide))
          have b7 : W6.cell? ⟨gl, off + jb * 10 + 7, none⟩ = some (.int .i32 b.py) := gw.all (hgb2.out 7 (by decide))
          have b8 : W6.cell? ⟨gl, off + jb * 10 + 8, none⟩ = some (.int .i32 b.vx) := gw.all (hgb2.out 8 (by decide))
          have b9 : W6.cell? ⟨gl, off + jb * 10 + 9, none⟩ = some (.int .i32 b.vy) := gw.all (hgb2.out 9 (by decide))
          clear t3_0 t3_1 t3_2 t3_3 t3_4 kW gw
          generalize wr.heap.size = cb at *
          generalize c.lo = lo at *
          generalize c.hi = hi at *
          by_cases e0 : lo = x.k
          · have hn := HOS.out (.inl e0)
            rw [if_pos e0] at HA1 HA2
            rw [e0] at c0 FA SH Zc
            clear e0
            obtain ⟨p1, hp1⟩ : ∃ z, z = n * c.nx := ⟨_, rfl⟩
            obtain ⟨p2, hp2⟩ : ∃ z, z = n * c.ny := ⟨_, rfl⟩
            have B1 := shn_bd hn hN1
            have B2 := shn_bd hn hN2
            rw [← hp1] at B1
            rw [← hp2] at B2
            obtain ⟨fx, hfx⟩ : ∃ z, z = p1 / 65536 := ⟨_, rfl⟩
            obtain ⟨fy, hfy⟩ : ∃ z, z = p2 / 65536 := ⟨_, rfl⟩
            rw [← hfx] at B1
            rw [← hfy] at B2
            have P1 : Hid (JFl p1 65536 fx) := Lib.hid (fun w => by rw [hfx]; exact reffl_any p1 65536 (i64_bd B1.1) (by decide) (by decide) w)
            have P2 : Hid (JFl p2 65536 fy) := Lib.hid (fun w => by rw [hfy]; exact reffl_any p2 65536 (i64_bd B2.1) (by decide) (by decide) w)
            have y1 : IntKind.i64.wrap c.nx = c.nx := wr_nr hN1
            have y2 : IntKind.i64.wrap c.ny = c.ny := wr_nr hN2
            have y3 : IntKind.i64.wrap (n * c.nx) = p1 := by rw [← hp1]; exact wr_p B1.1
            have y4 : IntKind.i64.wrap (n * c.ny) = p2 := by rw [← hp2]; exact wr_p B2.1
            rw [hp1] at hfx
            rw [hp2] at hfy
            obtain ⟨m1, hm1⟩ : ∃ z, z = -fx := ⟨_, rfl⟩
            obtain ⟨m2, hm2⟩ : ∃ z, z = -fy := ⟨_, rfl⟩
            have u1 : wrap64 (-fx) = m1 := by rw [hm1]; exact (wr_neg B1.2).1
            have u2 : wrap64 (-fy) = m2 := by rw [hm2]; exact (wr_neg B2.2).1
            have u3 : IntKind.i64.wrap (-fx) = m1 := by rw [hm1]; exact (wr_neg B1.2).2
            have M1 : -6710476 ≤ m1 ∧ m1 ≤ 6710476 := by rw [hm1]; exact neg_bd B1.2
            have u4 : IntKind.i64.wrap (-fy) = m2 := by rw [hm2]; exact (wr_neg B2.2).2
            have M2 : -6710476 ≤ m2 ∧ m2 ≤ 6710476 := by rw [hm2]; exact neg_bd B2.2
            obtain ⟨r1, hr1⟩ : ∃ z, z = t1 + m1 := ⟨_, rfl⟩
            obtain ⟨r2, hr2⟩ : ∃ z, z = t2 + m2 := ⟨_, rfl⟩
            have u5 : wrap64 (t1 + m1) = r1 := by rw [hr1]; exact (wr_add hb1 M1).1
            have u6 : wrap64 (t2 + m2) = r2 := by rw [hr2]; exact (wr_add hb2 M2).1
            have u7 : IntKind.i64.wrap (t1 + m1) = r1 := by rw [hr1]; exact (wr_add hb1 M1).2
            have u8 : IntKind.i64.wrap (t2 + m2) = r2 := by rw [hr2]; exact (wr_add hb2 M2).2
            have HRR : Hid (r1 = shfI (·.nx) L (C.take (q + 1)) x ∧ r2 = shfI (·.ny) L (C.take (q + 1)) x) := Lib.hid (by rw [HA1.out, HA2.out, ← hfx, ← hfy, hr1, hr2, hm1, hm2]; exact ⟨rfl, rfl⟩)
            clear M1 M2 hm1 hm2 hr1 hr2 hfx hfy hb1 hb2 hp1 hp2 B1 B2 hn HA1 HA2 hN1 hN2
            go_quiet (fail)
            generalize hW8 : World.drewN W6 _ = W8
            have k8 : Kep W6.heap.size W6 W8 := by rw [← hW8]; exact kep_drewN (Kep.refl _ _) _
            replace c0 := k8.all c0
            replace c1 := k8.all c1
            replace s0 := k8.all s0
            replace s4 := k8.all s4
            replace a0 := k8.all a0
            replace a1 := k8.all a1
            replace a2 := k8.all a2
            replace a3 := k8.all a3
            replace a4 := k8.all a4
            replace a5 := k8.all a5
            replace a6 := k8.all a6
            replace a7 := k8.all a7
            replace a8 := k8.all a8
            replace a9 := k8.all a9
            replace b0 := k8.all b0
            replace b1 := k8.all b1
            replace b2 := k8.all b2
            replace b3 := k8.all b3
            replace b4 := k8.all b4
            replace b5 := k8.all b5
            replace b6 := k8.all b6
            replace b7 := k8.all b7
            replace b8 := k8.all b8
            replace b9 := k8.all b9
            replace Zc := Zc.kep k8
            replace Zs := Zs.kep k8
            replace g6 := g6.trans (k8.mono z6)
            replace z6 := Nat.le_trans z6 k8.size
            have zg : gl < W8.heap.size := World.block_lt_of_cell? _ _ s0
            have zc := Zc.lt
            clear hW8 k8
            have LD := Lib.hid (HL.out.kep (G1.out.trans (g6.mono G1.out.size)))
            go_upto_region 13 with (first
              | ((with_reducible refine (FA.out _ LD.out).mono ?_); rintro e w4 ⟨rfl, rfl⟩)
              | ((with_reducible refine (FB.out _ (LD.out.kep (kep_more (Kep.refl _ _) _))).mono ?_); rintro e w4 ⟨rfl, rfl⟩))
            generalize hW : World.alloc (World.alloc W8 _) _ = W12
            have Za : ZC W12 (W8.heap.size) [.int .u32 a.k, .int .i32 a.r, .int .i32 a.ax, .int .i32 a.ay, .int .i32 a.m, .int .i32 a.o, .int .i32 a.px, .int .i32 a.py, .int .i32 a.vx, .int .i32 a.vy] := by rw [← hW]; exact ZC.more (zc_new' _ _ _ rfl) _
            have Zb : ZC W12 (W8.heap.size + 1) [.int .u32 b.k, .int .i32 b.r, .int .i32 b.ax, .int .i32 b.ay, .int .i32 b.m, .int .i32 b.o, .int .i32 b.px, .int .i32 b.py, .int .i32 b.vx, .int .i32 b.vy] := by rw [← hW]; exact zc_new' _ _ _ (by simp)
            have k8 : Kep W8.heap.size W8 W12 := by rw [← hW]; exact kep_more (kep_more (Kep.refl _ _) _) _
            clear hW
            replace s0 := k8.all s0
            replace s4 := k8.all s4
            replace Zc := Zc.kep k8
            replace Zs := Zs.kep k8
            replace g6 := g6.trans (k8.mono z6)
            replace z6 := Nat.le_trans z6 k8.size
            have gg : Kep W12.heap.size W12 W12 := Kep.refl _ _
            clear k8 zg zc LD c0 c1 a0 b0 a1 b1 a2 b2 a3 b3 a4 b4 a5 b5 a6 b6 a7 b7 a8 b8 a9 b9
            generalize W8.heap.size = ab at *
            refine wp_region_noPanic ?_
            refine wp_region_held_drew (S := (fun w' => ZC w' (cb) [.int .u32 x.k, .int .u32 hi, .int .i32 c.nx, .int .i32 c.ny, .int .i32 c.dp] ∧ ZC w' (ab) [.int .u32 a.k, .int .i32 a.r, .int .i32 a.ax, .int .i32 a.ay, .int .i32 a.m, .int .i32 a.o, .int .i32 a.px, .int .i32 a.py, .int .i32 a.vx, .int .i32 a.vy] ∧ ZC w' (ab + 1) [.int .u32 b.k, .int .i32 b.r, .int .i32 b.ax, .int .i32 b.ay, .int .i32 b.m, .int .i32 b.o, .int .i32 b.px, .int .i32 b.py, .int .i32 b.vx, .int .i32 b.vy] ∧ Kep W12.heap.size W12 w')) (by kernel_rfl) (⟨Zc.drew, Za.drew, Zb.drew, kep_drew gg⟩) (fun hH => ?_)
            clear Zc Za Zb gg
            refine rtk 0 (oi := ⟨some 67, .load 37 (.tmp 9), _, _, _, none⟩) (v := ?_) rfl ?_ hH ?_
            rotate_left
            · (intro wq hSw; (try dsimp only at hSw); obtain ⟨Zc, Za, Zb, gK⟩ := hSw; have s4q := Kep.all gK s4; have qc0 : wq.cell? ⟨cb, 0, none⟩ = some (.int .u32 x.k) := Zc.i (i := 0) rfl; have qc1 : wq.cell? ⟨cb, 1, none⟩ = some (.int .u32 hi) := Zc.i (i := 1) rfl; have qc2 : wq.cell? ⟨cb, 2, none⟩ = some (.int .i32 c.nx) := Zc.i (i := 2) rfl; have qc3 : wq.cell? ⟨cb, 3, none⟩ = some (.int .i32 c.ny) := Zc.i (i := 3) rfl; have qc4 : wq.cell? ⟨cb, 4, none⟩ = some (.int .i32 c.dp) := Zc.i (i := 4) rfl; have qzc := Zc.lt; have qa0 : wq.cell? ⟨ab, 0, none⟩ = some (.int .u32 a.k) := Za.i (i := 0) rfl; have qa1 : wq.cell? ⟨ab, 1, none⟩ = some (.int .i32 a.r) := Za.i (i := 1) rfl; have qa2 : wq.cell? ⟨ab, 2, none⟩ = some (.int .i32 a.ax) := Za.i (i := 2) rfl; have qa3 : wq.cell? ⟨ab, 3, none⟩ = some (.int .i32 a.ay) := Za.i (i := 3) rfl; have qa4 : wq.cell? ⟨ab, 4, none⟩ = some (.int .i32 a.m) := Za.i (i := 4) rfl; have qa5 : wq.cell? ⟨ab, 5, none⟩ = some (.int .i32 a.o) := Za.i (i := 5) rfl; have qa6 : wq.cell? ⟨ab, 6, none⟩ = some (.int .i32 a.px) := Za.i (i := 6) rfl; have qa7 : wq.cell? ⟨ab, 7, none⟩ = some (.int .i32 a.py) := Za.i (i := 7) rfl; have qa8 : wq.cell? ⟨ab, 8, none⟩ = some (.int .i32 a.vx) := Za.i (i := 8) rfl; have qa9 : wq.cell? ⟨ab, 9, none⟩ = some (.int .i32 a.vy) := Za.i (i := 9) rfl; have qza := Za.lt; have qb0 : wq.cell? ⟨ab + 1, 0, none⟩ = some (.int .u32 b.k) := Zb.i (i := 0) rfl; have qb1 : wq.cell? ⟨ab + 1, 1, none⟩ = some (.int .i32 b.r) := Zb.i (i := 1) rfl; have qb2 : wq.cell? ⟨ab + 1, 2, none⟩ = some (.int .i32 b.ax) := Zb.i (i := 2) rfl; have qb3 : wq.cell? ⟨ab + 1, 3, none⟩ = some (.int .i32 b.ay) := Zb.i (i := 3) rfl; have qb4 : wq.cell? ⟨ab + 1, 4, none⟩ = some (.int .i32 b.m) := Zb.i (i := 4) rfl; have qb5 : wq.cell? ⟨ab + 1, 5, none⟩ = some (.int .i32 b.o) := Zb.i (i := 5) rfl; have qb6 : wq.cell? ⟨ab + 1, 6, none⟩ = some (.int .i32 b.px) := Zb.i (i := 6) rfl; have qb7 : wq.cell? ⟨ab + 1, 7, none⟩ = some (.int .i32 b.py) := Zb.i (i := 7) rfl; have qb8 : wq.cell? ⟨ab + 1, 8, none⟩ = some (.int .i32 b.vx) := Zb.i (i := 8) rfl; have qb9 : wq.cell? ⟨ab + 1, 9, none⟩ = some (.int .i32 b.vy) := Zb.i (i := 9) rfl; have qzb := Zb.lt; go_simp; (try with_reducible rfl))
            refine rtk 1 (oi := ⟨some 68, .load 32 (.tmp 10), _, _, _, none⟩) (v := ?_) rfl ?_ hH ?_
            rotate_left
            · (intro wq hSw; (try dsimp only at hSw); obtain ⟨Zc, Za, Zb, gK⟩ := hSw; have s4q := Kep.all gK s4; have qc0 : wq.cell? ⟨cb, 0, none⟩ = some (.int .u32 x.k) := Zc.i (i := 0) rfl; have qc1 : wq.cell? ⟨cb, 1, none⟩ = some (.int .u32 hi) := Zc.i (i := 1) rfl; have qc2 : wq.cell? ⟨cb, 2, none⟩ = some (.int .i32 c.nx) := Zc.i (i := 2) rfl; have qc3 : wq.cell? ⟨cb, 3, none⟩ = some (.int .i32 c.ny) := Zc.i (i := 3) rfl; have qc4 : wq.cell? ⟨cb, 4, none⟩ = some (.int .i32 c.dp) := Zc.i (i := 4) rfl; have qzc := Zc.lt; have qa0 : wq.cell? ⟨ab, 0, none⟩ = some (.int .u32 a.k) := Za.i (i := 0) rfl; have qa1 : wq.cell? ⟨ab, 1, none⟩ = some (.int .i32 a.r) := Za.i (i := 1) rfl; have qa2 : wq.cell? ⟨ab, 2, none⟩ = some (.int .i32 a.ax) := Za.i (i := 2) rfl; have qa3 : wq.cell? ⟨ab, 3, none⟩ = some (.int .i32 a.ay) := Za.i (i := 3) rfl; have qa4 : wq.cell? ⟨ab, 4, none⟩ = some (.int .i32 a.m) := Za.i (i := 4) rfl; have qa5 : wq.cell? ⟨ab, 5, none⟩ = some (.int .i32 a.o) := Za.i (i := 5) rfl; have qa6 : wq.cell? ⟨ab, 6, none⟩ = some (.int .i32 a.px) := Za.i (i := 6) rfl; have qa7 : wq.cell? ⟨ab, 7, none⟩ = some (.int .i32 a.py) := Za.i (i := 7) rfl; have qa8 : wq.cell? ⟨ab, 8, none⟩ = some (.int .i32 a.vx) := Za.i (i := 8) rfl; have qa9 : wq.cell? ⟨ab, 9, none⟩ = some (.int .i32 a.vy) := Za.i (i := 9) rfl; have qza := Za.lt; have qb0 : wq.cell? ⟨ab + 1, 0, none⟩ = some (.int .u32 b.k) := Zb.i (i := 0) rfl; have qb1 : wq.cell? ⟨ab + 1, 1, none⟩ = some (.int .i32 b.r) := Zb.i (i := 1) rfl; have qb2 : wq.cell? ⟨ab + 1, 2, none⟩ = some (.int .i32 b.ax) := Zb.i (i := 2) rfl; have qb3 : wq.cell? ⟨ab + 1, 3, none⟩ = some (.int .i32 b.ay) := Zb.i (i := 3) rfl; have qb4 : wq.cell? ⟨ab + 1, 4, none⟩ = some (.int .i32 b.m) := Zb.i (i := 4) rfl; have qb5 : wq.cell? ⟨ab + 1, 5, none⟩ = some (.int .i32 b.o) := Zb.i (i := 5) rfl; have qb6 : wq.cell? ⟨ab + 1, 6, none⟩ = some (.int .i32 b.px) := Zb.i (i := 6) rfl; have qb7 : wq.cell? ⟨ab + 1, 7, none⟩ = some (.int .i32 b.py) := Zb.i (i := 7) rfl; have qb8 : wq.cell? ⟨ab + 1, 8, none⟩ = some (.int .i32 b.vx) := Zb.i (i := 8) rfl; have qb9 : wq.cell? ⟨ab + 1, 9, none⟩ = some (.int .i32 b.vy) := Zb.i (i := 9) rfl; have qzb := Zb.lt; go_simp; (try with_reducible rfl))
            refine rtk 2 (oi := ⟨some 69, .load 32 (.tmp 11), _, _, _, none⟩) (v := ?_) rfl ?_ hH ?_
            rotate_left
            · (intro wq hSw; (try dsimp only at hSw); obtain ⟨Zc, Za, Zb, gK⟩ := hSw; have s4q := Kep.all gK s4; have qc0 : wq.cell? ⟨cb, 0, none⟩ = some (.int .u32 x.k) := Zc.i (i := 0) rfl; have qc1 : wq.cell? ⟨cb, 1, none⟩ = some (.int .u32 hi) := Zc.i (i := 1) rfl; have qc2 : wq.cell? ⟨cb, 2, none⟩ = some (.int .i32 c.nx) := Zc.i (i := 2) rfl; have qc3 : wq.cell? ⟨cb, 3, none⟩ = some (.int .i32 c.ny) := Zc.i (i := 3) rfl; have qc4 : wq.cell? ⟨cb, 4, none⟩ = some (.int .i32 c.dp) := Zc.i (i := 4) rfl; have qzc := Zc.lt; have qa0 : wq.cell? ⟨ab, 0, none⟩ = some (.int .u32 a.k) := Za.i (i := 0) rfl; have qa1 : wq.cell? ⟨ab, 1, none⟩ = some (.int .i32 a.r) := Za.i (i := 1) rfl; have qa2 : wq.cell? ⟨ab, 2, none⟩ = some (.int .i32 a.ax) := Za.i (i := 2) rfl; have qa3 : wq.cell? ⟨ab, 3, none⟩ = some (.int .i32 a.ay) := Za.i (i := 3) rfl; have qa4 : wq.cell? ⟨ab, 4, none⟩ = some (.int .i32 a.m) := Za.i (i := 4) rfl; have qa5 : wq.cell? ⟨ab, 5, none⟩ = some (.int .i32 a.o) := Za.i (i := 5) rfl; have qa6 : wq.cell? ⟨ab, 6, none⟩ = some (.int .i32 a.px) := Za.i (i := 6) rfl; have qa7 : wq.cell? ⟨ab, 7, none⟩ = some (.int .i32 a.py) := Za.i (i := 7) rfl; have qa8 : wq.cell? ⟨ab, 8, none⟩ = some (.int .i32 a.vx) := Za.i (i := 8) rfl; have qa9 : wq.cell? ⟨ab, 9, none⟩ = some (.int .i32 a.vy) := Za.i (i := 9) rfl; have qza := Za.lt; have qb0 : wq.cell? ⟨ab + 1, 0, none⟩ = some (.int .u32 b.k) := Zb.i (i := 0) rfl; have qb1 : wq.cell? ⟨ab + 1, 1, none⟩ = some (.int .i32 b.r) := Zb.i (i := 1) rfl; have qb2 : wq.cell? ⟨ab + 1, 2, none⟩ = some (.int .i32 b.ax) := Zb.i (i := 2) rfl; have qb3 : wq.cell? ⟨ab + 1, 3, none⟩ = some (.int .i32 b.ay) := Zb.i (i := 3) rfl; have qb4 : wq.cell? ⟨ab + 1, 4, none⟩ = some (.int .i32 b.m) := Zb.i (i := 4) rfl; have qb5 : wq.cell? ⟨ab + 1, 5, none⟩ = some (.int .i32 b.o) := Zb.i (i := 5) rfl; have qb6 : wq.cell? ⟨ab + 1, 6, none⟩ = some (.int .i32 b.px) := Zb.i (i := 6) rfl; have qb7 : wq.cell? ⟨ab + 1, 7, none⟩ = some (.int .i32 b.py) := Zb.i (i := 7) rfl; have qb8 : wq.cell? ⟨ab + 1, 8, none⟩ = some (.int .i32 b.vx) := Zb.i (i := 8) rfl; have qb9 : wq.cell? ⟨ab + 1, 9, none⟩ = some (.int .i32 b.vy) := Zb.i (i := 9) rfl; have qzb := Zb.lt; go_simp; (try with_reducible rfl))
            refine rtk 3 (oi := ⟨some 70, .move (.tmp 0), _, _, _, none⟩) (v := ?_) rfl ?_ hH ?_
            rotate_left
            · (intro wq hSw; (try dsimp only at hSw); go_simp; (try with_reducible rfl))
            try simp only [Act.put, List.setIfInBounds_toArray, List.set_cons_zero, List.set_cons_succ]
            refine rtk 4 (oi := ⟨some 71, .move (.tmp 6), _, _, _, none⟩) (v := ?_) rfl ?_ hH ?_
            rotate_left
            · (intro wq hSw; (try dsimp only at hSw); go_simp; (try with_reducible rfl))
            refine rtk 5 (oi := ⟨some 72, .indexAddr 22 (.tmp 70) (.tmp 71), _, _, _, none⟩) (v := ?_) rfl ?_ hH ?_
            rotate_left
            · (intro wq hSw; (try dsimp only at hSw); go_simp; (try with_reducible rfl))
            refine rtk 6 (oi := ⟨some 73, .fieldAddr 32 (.tmp 72) 3, _, _, _, none⟩) (v := ?_) rfl ?_ hH ?_
            rotate_left
            · (intro wq hSw; (try dsimp only at hSw); go_simp; (try with_reducible rfl))
            refine rtk 7 (oi := ⟨some 74, .load 21 (.tmp 73), _, _, _, none⟩) (v := ?_) rfl ?_ hH ?_
            rotate_left
            · (intro wq hSw; (try dsimp only at hSw); obtain ⟨Zc, Za, Zb, gK⟩ := hSw; have s4q := Kep.all gK s4; have qc0 : wq.cell? ⟨cb, 0, none⟩ = some (.int .u32 x.k) := Zc.i (i := 0) rfl; have qc1 : wq.cell? ⟨cb, 1, none⟩ = some (.int .u32 hi) := Zc.i (i := 1) rfl; have qc2 : wq.cell? ⟨cb, 2, none⟩ = some (.int .i32 c.nx) := Zc.i (i := 2) rfl; have qc3 : wq.cell? ⟨cb, 3, none⟩ = some (.int .i32 c.ny) := Zc.i (i := 3) rfl; have qc4 : wq.cell? ⟨cb, 4, none⟩ = some (.int .i32 c.dp) := Zc.i (i := 4) rfl; have qzc := Zc.lt; have qa0 : wq.cell? ⟨ab, 0, none⟩ = some (.int .u32 a.k) := Za.i (i := 0) rfl; have qa1 : wq.cell? ⟨ab, 1, none⟩ = some (.int .i32 a.r) := Za.i (i := 1) rfl; have qa2 : wq.cell? ⟨ab, 2, none⟩ = some (.int .i32 a.ax) := Za.i (i := 2) rfl; have qa3 : wq.cell? ⟨ab, 3, none⟩ = some (.int .i32 a.ay) := Za.i (i := 3) rfl; have qa4 : wq.cell? ⟨ab, 4, none⟩ = some (.int .i32 a.m) := Za.i (i := 4) rfl; have qa5 : wq.cell? ⟨ab, 5, none⟩ = some (.int .i32 a.o) := Za.i (i := 5) rfl; have qa6 : wq.cell? ⟨ab, 6, none⟩ = some (.int .i32 a.px) := Za.i (i := 6) rfl; have qa7 : wq.cell? ⟨ab, 7, none⟩ = some (.int .i32 a.py) := Za.i (i := 7) rfl; have qa8 : wq.cell? ⟨ab, 8, none⟩ = some (.int .i32 a.vx) := Za.i (i := 8) rfl; have qa9 : wq.cell? ⟨ab, 9, none⟩ = some (.int .i32 a.vy) := Za.i (i := 9) rfl; have qza := Za.lt; have qb0 : wq.cell? ⟨ab + 1, 0, none⟩ = some (.int .u32 b.k) := Zb.i (i := 0) rfl; have qb1 : wq.cell? ⟨ab + 1, 1, none⟩ = some (.int .i32 b.r) := Zb.i (i := 1) rfl; have qb2 : wq.cell? ⟨ab + 1, 2, none⟩ = some (.int .i32 b.ax) := Zb.i (i := 2) rfl; have qb3 : wq.cell? ⟨ab + 1, 3, none⟩ = some (.int .i32 b.ay) := Zb.i (i := 3) rfl; have qb4 : wq.cell? ⟨ab + 1, 4, none⟩ = some (.int .i32 b.m) := Zb.i (i := 4) rfl; have qb5 : wq.cell? ⟨ab + 1, 5, none⟩ = some (.int .i32 b.o) := Zb.i (i := 5) rfl; have qb6 : wq.cell? ⟨ab + 1, 6, none⟩ = some (.int .i32 b.px) := Zb.i (i := 6) rfl; have qb7 : wq.cell? ⟨ab + 1, 7, none⟩ = some (.int .i32 b.py) := Zb.i (i := 7) rfl; have qb8 : wq.cell? ⟨ab + 1, 8, none⟩ = some (.int .i32 b.vx) := Zb.i (i := 8) rfl; have qb9 : wq.cell? ⟨ab + 1, 9, none⟩ = some (.int .i32 b.vy) := Zb.i (i := 9) rfl; have qzb := Zb.lt; go_simp; (try with_reducible rfl))
            try simp only [Act.put, List.setIfInBounds_toArray, List.set_cons_zero, List.set_cons_succ]
            refine wpAnyH_ready (rs := [8]) (by kernel_rfl) (by simp) ?_
            refine AllReadyH.cons (o := ⟨some 75, .call { callee := .value (.func 15), args := #[.tmp 67, .tmp 68, .tmp 69, .tmp 74], argTypes := #[37, 32, 32, 21] }, _, _, _, none⟩) rfl (fun K hK => ?_) AllReadyH.nil
            go_simp
            (with_reducible refine (SH.out _).mono ?_); rintro e v13_8 ⟨rfl, g⟩
            refine hK.out _ _ (by (try dsimp only); obtain ⟨Zc, Za, Zb, gg⟩ := id hH; exact ⟨Zc.kep g, Za.kep g, Zb.kep g, kep_next gg g⟩) (fun hH2 => ?_)
            clear hK K hH; have hH := hH2; clear hH2
            refine rtk 9 (oi := ⟨some 12, .assign (.tmp 75), _, _, _, none⟩) (v := ?_) rfl ?_ hH ?_
            rotate_left
            · (intro wq hSw; (try dsimp only at hSw); go_simp; (try with_reducible rfl))
            try simp only [Act.put, List.setIfInBounds_toArray, List.set_cons_zero, List.set_cons_succ]
            refine wpAnyH_done (by kernel_rfl) ?_ _
            refine NoPanic.normal ?_
            obtain ⟨Zc, Za, Zb, gg⟩ := hH
            replace s0 := gg.all s0
            replace Zs := Zs.kep gg
            replace g6 := g6.trans (gg.mono z6)
            replace z6 := Nat.le_trans z6 gg.size
            have c0 := Zc.i (i := 0) rfl
            have c2 := Zc.i (i := 2) rfl
            have c3 := Zc.i (i := 3) rfl
            clear gg s4 Za Zb Zc
            go_upto_region 16 with (first
              | ((with_reducible refine (P1.out _).mono ?_); rintro e w9 ⟨rfl, rfl⟩)
              | ((with_reducible refine (P2.out _).mono ?_); rintro e w9 ⟨rfl, rfl⟩))
            go_quiet (fail)
            generalize hW9 : World.drewN v13_8 _ = W9
            have k9 : Kep v13_8.heap.size v13_8 W9 := by rw [← hW9]; exact kep_drewN (Kep.refl _ _) _
            replace Zs := Zs.kep k9
            replace g6 := g6.trans (k9.mono z6)
            clear hW9 k9 z6 c0 c2 c3 s0
            have z0 := Zs.i (i := 0) rfl
            have z1 := Zs.i (i := 1) rfl
            have zf0 := Zs.frz 0
            have zf1 := Zs.frz 1
            have zl := Zs.lt
            go_wp2_with fail
            have HS := Lib.hid (Zs.set [.int .i64 r1, .int .i64 r2] (by simp))
            have HK := Lib.hid (kep_setAll (b := wd.heap.size) (Nat.le_refl _) [.int .i64 r1, .int .i64 r2] 0 g6)
            simp only [setAll, Nat.zero_add] at HS HK
            go_roundw
            case rel => exact ⟨q + 1, by omega, by go_num, Lib.hid ⟨r1, r2, HRR.out.1, HRR.out.2, HS.out, HK.out⟩⟩
            case measure => simp [RowKit.intOf]; omega
          · have q1 : (lo != x.k) = true := bne_iff_ne.2 e0
            have q3 : (lo == x.k) = false := beq_eq_false_iff_ne.2 e0
            have HE := Lib.hid e0
            clear e0
            by_cases e1 : hi = x.k
            · have hn := HOS.out (.inr e1)
              rw [if_neg HE.out, if_pos e1] at HA1 HA2
              rw [e1] at c1 FB SH Zc
              clear e1
              obtain ⟨p1, hp1⟩ : ∃ z, z = n * c.nx := ⟨_, rfl⟩
              obtain ⟨p2, hp2⟩ : ∃ z, z = n * c.ny := ⟨_, rfl⟩
              have B1 := shn_bd hn hN1
              have B2 := shn_bd hn hN2
              rw [← hp1] at B1
              rw [← hp2] at B2
              obtain ⟨fx, hfx⟩ : ∃ z, z = p1 / 65536 := ⟨_, rfl⟩
              obtain ⟨fy, hfy⟩ : ∃ z, z = p2 / 65536 := ⟨_, rfl⟩
              rw [← hfx] at B1
              rw [← hfy] at B2
              have P1 : Hid (JFl p1 65536 fx) := Lib.hid (fun w => by rw [hfx]; exact reffl_any p1 65536 (i64_bd B1.1) (by decide) (by decide) w)
              have P2 : Hid (JFl p2 65536 fy) := Lib.hid (fun w => by rw [hfy]; exact reffl_any p2 65536 (i64_bd B2.1) (by decide) (by decide) w)
              have y1 : IntKind.i64.wrap c.nx = c.nx := wr_nr hN1
              have y2 : IntKind.i64.wrap c.ny = c.ny := wr_nr hN2
              have y3 : IntKind.i64.wrap (n * c.nx) = p1 := by rw [← hp1]; exact wr_p B1.1
              have y4 : IntKind.i64.wrap (n * c.ny) = p2 := by rw [← hp2]; exact wr_p B2.1
              rw [hp1] at hfx
              rw [hp2] at hfy
              obtain ⟨r1, hr1⟩ : ∃ z, z = t1 + fx := ⟨_, rfl⟩
              obtain ⟨r2, hr2⟩ : ∃ z, z = t2 + fy := ⟨_, rfl⟩
              have u5 : wrap64 (t1 + fx) = r1 := by rw [hr1]; exact (wr_add hb1 B1.2).1
              have u6 : wrap64 (t2 + fy) = r2 := by rw [hr2]; exact (wr_add hb2 B2.2).1
              have u7 : IntKind.i64.wrap (t1 + fx) = r1 := by rw [hr1]; exact (wr_add hb1 B1.2).2
              have u8 : IntKind.i64.wrap (t2 + fy) = r2 := by rw [hr2]; exact (wr_add hb2 B2.2).2
              have HRR : Hid (r1 = shfI (·.nx) L (C.take (q + 1)) x ∧ r2 = shfI (·.ny) L (C.take (q + 1)) x) := Lib.hid (by rw [HA1.out, HA2.out, ← hfx, ← hfy, hr1, hr2]; exact ⟨rfl, rfl⟩)
              clear hr1 hr2 hfx hfy hb1 hb2 hp1 hp2 B1 B2 hn HA1 HA2 hN1 hN2
              go_quiet (fail)
              generalize hW8 : World.drewN W6 _ = W8
              have k8 : Kep W6.heap.size W6 W8 := by rw [← hW8]; exact kep_drewN (Kep.refl _ _) _
              replace c0 := k8.all c0
              replace c1 := k8.all c1
              replace s0 := k8.all s0
              replace s4 := k8.all s4
              replace a0 := k8.all a0
              replace a1 := k8.all a1
              replace a2 := k8.all a2
              replace a3 := k8.all a3
              replace a4 := k8.all a4
              replace a5 := k8.all a5
              replace a6 := k8.all a6
              replace a7 := k8.all a7
              replace a8 := k8.all a8
              replace a9 := k8.all a9
              replace b0 := k8.all b0
              replace b1 := k8.all b1
              replace b2 := k8.all b2
              replace b3 := k8.all b3
              replace b4 := k8.all b4
              replace b5 := k8.all b5
              replace b6 := k8.all b6
              replace b7 := k8.all b7
              replace b8 := k8.all b8
              replace b9 := k8.all b9
              replace Zc := Zc.kep k8
              replace Zs := Zs.kep k8
              replace g6 := g6.trans (k8.mono z6)
              replace z6 := Nat.le_trans z6 k8.size
              have zg : gl < W8.heap.size := World.block_lt_of_cell? _ _ s0
              have zc := Zc.lt
              clear hW8 k8
              have LD := Lib.hid (HL.out.kep (G1.out.trans (g6.mono G1.out.size)))
              go_upto_region 13 with (first
                | ((with_reducible refine (FA.out _ LD.out).mono ?_); rintro e w4 ⟨rfl, rfl⟩)
                | ((with_reducible refine (FB.out _ (LD.out.kep (kep_more (Kep.refl _ _) _))).mono ?_); rintro e w4 ⟨rfl, rfl⟩))
              generalize hW : World.alloc (World.alloc W8 _) _ = W12
              have Za : ZC W12 (W8.heap.size) [.int .u32 a.k, .int .i32 a.r, .int .i32 a.ax, .int .i32 a.ay, .int .i32 a.m, .int .i32 a.o, .int .i32 a.px, .int .i32 a.py, .int .i32 a.vx, .int .i32 a.vy] := by rw [← hW]; exact ZC.more (zc_new' _ _ _ rfl) _
              have Zb : ZC W12 (W8.heap.size + 1) [.int .u32 b.k, .int .i32 b.r, .int .i32 b.ax, .int .i32 b.ay, .int .i32 b.m, .int .i32 b.o, .int .i32 b.px, .int .i32 b.py, .int .i32 b.vx, .int .i32 b.vy] := by rw [← hW]; exact zc_new' _ _ _ (by simp)
              have k8 : Kep W8.heap.size W8 W12 := by rw [← hW]; exact kep_more (kep_more (Kep.refl _ _) _) _
              clear hW
              replace s0 := k8.all s0
              replace s4 := k8.all s4
              replace Zc := Zc.kep k8
              replace Zs := Zs.kep k8
              replace g6 := g6.trans (k8.mono z6)
              replace z6 := Nat.le_trans z6 k8.size
              have gg : Kep W12.heap.size W12 W12 := Kep.refl _ _
              clear k8 zg zc LD c0 c1 a0 b0 a1 b1 a2 b2 a3 b3 a4 b4 a5 b5 a6 b6 a7 b7 a8 b8 a9 b9
              generalize W8.heap.size = ab at *
              refine wp_region_noPanic ?_
              refine wp_region_held_drew (S := (fun w' => ZC w' (cb) [.int .u32 lo, .int .u32 x.k, .int .i32 c.nx, .int .i32 c.ny, .int .i32 c.dp] ∧ ZC w' (ab) [.int .u32 a.k, .int .i32 a.r, .int .i32 a.ax, .int .i32 a.ay, .int .i32 a.m, .int .i32 a.o, .int .i32 a.px, .int .i32 a.py, .int .i32 a.vx, .int .i32 a.vy] ∧ ZC w' (ab + 1) [.int .u32 b.k, .int .i32 b.r, .int .i32 b.ax, .int .i32 b.ay, .int .i32 b.m, .int .i32 b.o, .int .i32 b.px, .int .i32 b.py, .int .i32 b.vx, .int .i32 b.vy] ∧ Kep W12.heap.size W12 w')) (by kernel_rfl) (⟨Zc.drew, Za.drew, Zb.drew, kep_drew gg⟩) (fun hH => ?_)
              clear Zc Za Zb gg
              refine rtk 0 (oi := ⟨some 67, .load 37 (.tmp 9), _, _, _, none⟩) (v := ?_) rfl ?_ hH ?_
              rotate_left
              · (intro wq hSw; (try dsimp only at hSw); obtain ⟨Zc, Za, Zb, gK⟩ := hSw; have s4q := Kep.all gK s4; have qc0 : wq.cell? ⟨cb, 0, none⟩ = some (.int .u32 lo) := Zc.i (i := 0) rfl; have qc1 : wq.cell? ⟨cb, 1, none⟩ = some (.int .u32 x.k) := Zc.i (i := 1) rfl; have qc2 : wq.cell? ⟨cb, 2, none⟩ = some (.int .i32 c.nx) := Zc.i (i := 2) rfl; have qc3 : wq.cell? ⟨cb, 3, none⟩ = some (.int .i32 c.ny) := Zc.i (i := 3) rfl; have qc4 : wq.cell? ⟨cb, 4, none⟩ = some (.int .i32 c.dp) := Zc.i (i := 4) rfl; have qzc := Zc.lt; have qa0 : wq.cell? ⟨ab, 0, none⟩ = some (.int .u32 a.k) := Za.i (i := 0) rfl; have qa1 : wq.cell? ⟨ab, 1, none⟩ = some (.int .i32 a.r) := Za.i (i := 1) rfl; have qa2 : wq.cell? ⟨ab, 2, none⟩ = some (.int .i32 a.ax) := Za.i (i := 2) rfl; have qa3 : wq.cell? ⟨ab, 3, none⟩ = some (.int .i32 a.ay) := Za.i (i := 3) rfl; have qa4 : wq.cell? ⟨ab, 4, none⟩ = some (.int .i32 a.m) := Za.i (i := 4) rfl; have qa5 : wq.cell? ⟨ab, 5, none⟩ = some (.int .i32 a.o) := Za.i (i := 5) rfl; have qa6 : wq.cell? ⟨ab, 6, none⟩ = some (.int .i32 a.px) := Za.i (i := 6) rfl; have qa7 : wq.cell? ⟨ab, 7, none⟩ = some (.int .i32 a.py) := Za.i (i := 7) rfl; have qa8 : wq.cell? ⟨ab, 8, none⟩ = some (.int .i32 a.vx) := Za.i (i := 8) rfl; have qa9 : wq.cell? ⟨ab, 9, none⟩ = some (.int .i32 a.vy) := Za.i (i := 9) rfl; have qza := Za.lt; have qb0 : wq.cell? ⟨ab + 1, 0, none⟩ = some (.int .u32 b.k) := Zb.i (i := 0) rfl; have qb1 : wq.cell? ⟨ab + 1, 1, none⟩ = some (.int .i32 b.r) := Zb.i (i := 1) rfl; have qb2 : wq.cell? ⟨ab + 1, 2, none⟩ = some (.int .i32 b.ax) := Zb.i (i := 2) rfl; have qb3 : wq.cell? ⟨ab + 1, 3, none⟩ = some (.int .i32 b.ay) := Zb.i (i := 3) rfl; have qb4 : wq.cell? ⟨ab + 1, 4, none⟩ = some (.int .i32 b.m) := Zb.i (i := 4) rfl; have qb5 : wq.cell? ⟨ab + 1, 5, none⟩ = some (.int .i32 b.o) := Zb.i (i := 5) rfl; have qb6 : wq.cell? ⟨ab + 1, 6, none⟩ = some (.int .i32 b.px) := Zb.i (i := 6) rfl; have qb7 : wq.cell? ⟨ab + 1, 7, none⟩ = some (.int .i32 b.py) := Zb.i (i := 7) rfl; have qb8 : wq.cell? ⟨ab + 1, 8, none⟩ = some (.int .i32 b.vx) := Zb.i (i := 8) rfl; have qb9 : wq.cell? ⟨ab + 1, 9, none⟩ = some (.int .i32 b.vy) := Zb.i (i := 9) rfl; have qzb := Zb.lt; go_simp; (try with_reducible rfl))
              refine rtk 1 (oi := ⟨some 68, .load 32 (.tmp 10), _, _, _, none⟩) (v := ?_) rfl ?_ hH ?_
              rotate_left
              · (intro wq hSw; (try dsimp only at hSw); obtain ⟨Zc, Za, Zb, gK⟩ := hSw; have s4q := Kep.all gK s4; have qc0 : wq.cell? ⟨cb, 0, none⟩ = some (.int .u32 lo) := Zc.i (i := 0) rfl; have qc1 : wq.cell? ⟨cb, 1, none⟩ = some (.int .u32 x.k) := Zc.i (i := 1) rfl; have qc2 : wq.cell? ⟨cb, 2, none⟩ = some (.int .i32 c.nx) := Zc.i (i := 2) rfl; have qc3 : wq.cell? ⟨cb, 3, none⟩ = some (.int .i32 c.ny) := Zc.i (i := 3) rfl; have qc4 : wq.cell? ⟨cb, 4, none⟩ = some (.int .i32 c.dp) := Zc.i (i := 4) rfl; have qzc := Zc.lt; have qa0 : wq.cell? ⟨ab, 0, none⟩ = some (.int .u32 a.k) := Za.i (i := 0) rfl; have qa1 : wq.cell? ⟨ab, 1, none⟩ = some (.int .i32 a.r) := Za.i (i := 1) rfl; have qa2 : wq.cell? ⟨ab, 2, none⟩ = some (.int .i32 a.ax) := Za.i (i := 2) rfl; have qa3 : wq.cell? ⟨ab, 3, none⟩ = some (.int .i32 a.ay) := Za.i (i := 3) rfl; have qa4 : wq.cell? ⟨ab, 4, none⟩ = some (.int .i32 a.m) := Za.i (i := 4) rfl; have qa5 : wq.cell? ⟨ab, 5, none⟩ = some (.int .i32 a.o) := Za.i (i := 5) rfl; have qa6 : wq.cell? ⟨ab, 6, none⟩ = some (.int .i32 a.px) := Za.i (i := 6) rfl; have qa7 : wq.cell? ⟨ab, 7, none⟩ = some (.int .i32 a.py) := Za.i (i := 7) rfl; have qa8 : wq.cell? ⟨ab, 8, none⟩ = some (.int .i32 a.vx) := Za.i (i := 8) rfl; have qa9 : wq.cell? ⟨ab, 9, none⟩ = some (.int .i32 a.vy) := Za.i (i := 9) rfl; have qza := Za.lt; have qb0 : wq.cell? ⟨ab + 1, 0, none⟩ = some (.int .u32 b.k) := Zb.i (i := 0) rfl; have qb1 : wq.cell? ⟨ab + 1, 1, none⟩ = some (.int .i32 b.r) := Zb.i (i := 1) rfl; have qb2 : wq.cell? ⟨ab + 1, 2, none⟩ = some (.int .i32 b.ax) := Zb.i (i := 2) rfl; have qb3 : wq.cell? ⟨ab + 1, 3, none⟩ = some (.int .i32 b.ay) := Zb.i (i := 3) rfl; have qb4 : wq.cell? ⟨ab + 1, 4, none⟩ = some (.int .i32 b.m) := Zb.i (i := 4) rfl; have qb5 : wq.cell? ⟨ab + 1, 5, none⟩ = some (.int .i32 b.o) := Zb.i (i := 5) rfl; have qb6 : wq.cell? ⟨ab + 1, 6, none⟩ = some (.int .i32 b.px) := Zb.i (i := 6) rfl; have qb7 : wq.cell? ⟨ab + 1, 7, none⟩ = some (.int .i32 b.py) := Zb.i (i := 7) rfl; have qb8 : wq.cell? ⟨ab + 1, 8, none⟩ = some (.int .i32 b.vx) := Zb.i (i := 8) rfl; have qb9 : wq.cell? ⟨ab + 1, 9, none⟩ = some (.int .i32 b.vy) := Zb.i (i := 9) rfl; have qzb := Zb.lt; go_simp; (try with_reducible rfl))
              refine rtk 2 (oi := ⟨some 69, .load 32 (.tmp 11), _, _, _, none⟩) (v := ?_) rfl ?_ hH ?_
              rotate_left
              · (intro wq hSw; (try dsimp only at hSw); obtain ⟨Zc, Za, Zb, gK⟩ := hSw; have s4q := Kep.all gK s4; have qc0 : wq.cell? ⟨cb, 0, none⟩ = some (.int .u32 lo) := Zc.i (i := 0) rfl; have qc1 : wq.cell? ⟨cb, 1, none⟩ = some (.int .u32 x.k) := Zc.i (i := 1) rfl; have qc2 : wq.cell? ⟨cb, 2, none⟩ = some (.int .i32 c.nx) := Zc.i (i := 2) rfl; have qc3 : wq.cell? ⟨cb, 3, none⟩ = some (.int .i32 c.ny) := Zc.i (i := 3) rfl; have qc4 : wq.cell? ⟨cb, 4, none⟩ = some (.int .i32 c.dp) := Zc.i (i := 4) rfl; have qzc := Zc.lt; have qa0 : wq.cell? ⟨ab, 0, none⟩ = some (.int .u32 a.k) := Za.i (i := 0) rfl; have qa1 : wq.cell? ⟨ab, 1, none⟩ = some (.int .i32 a.r) := Za.i (i := 1) rfl; have qa2 : wq.cell? ⟨ab, 2, none⟩ = some (.int .i32 a.ax) := Za.i (i := 2) rfl; have qa3 : wq.cell? ⟨ab, 3, none⟩ = some (.int .i32 a.ay) := Za.i (i := 3) rfl; have qa4 : wq.cell? ⟨ab, 4, none⟩ = some (.int .i32 a.m) := Za.i (i := 4) rfl; have qa5 : wq.cell? ⟨ab, 5, none⟩ = some (.int .i32 a.o) := Za.i (i := 5) rfl; have qa6 : wq.cell? ⟨ab, 6, none⟩ = some (.int .i32 a.px) := Za.i (i := 6) rfl; have qa7 : wq.cell? ⟨ab, 7, none⟩ = some (.int .i32 a.py) := Za.i (i := 7) rfl; have qa8 : wq.cell? ⟨ab, 8, none⟩ = some (.int .i32 a.vx) := Za.i (i := 8) rfl; have qa9 : wq.cell? ⟨ab, 9, none⟩ = some (.int .i32 a.vy) := Za.i (i := 9) rfl; have qza := Za.lt; have qb0 : wq.cell? ⟨ab + 1, 0, none⟩ = some (.int .u32 b.k) := Zb.i (i := 0) rfl; have qb1 : wq.cell? ⟨ab + 1, 1, none⟩ = some (.int .i32 b.r) := Zb.i (i := 1) rfl; have qb2 : wq.cell? ⟨ab + 1, 2, none⟩ = some (.int .i32 b.ax) := Zb.i (i := 2) rfl; have qb3 : wq.cell? ⟨ab + 1, 3, none⟩ = some (.int .i32 b.ay) := Zb.i (i := 3) rfl; have qb4 : wq.cell? ⟨ab + 1, 4, none⟩ = some (.int .i32 b.m) := Zb.i (i := 4) rfl; have qb5 : wq.cell? ⟨ab + 1, 5, none⟩ = some (.int .i32 b.o) := Zb.i (i := 5) rfl; have qb6 : wq.cell? ⟨ab + 1, 6, none⟩ = some (.int .i32 b.px) := Zb.i (i := 6) rfl; have qb7 : wq.cell? ⟨ab + 1, 7, none⟩ = some (.int .i32 b.py) := Zb.i (i := 7) rfl; have qb8 : wq.cell? ⟨ab + 1, 8, none⟩ = some (.int .i32 b.vx) := Zb.i (i := 8) rfl; have qb9 : wq.cell? ⟨ab + 1, 9, none⟩ = some (.int .i32 b.vy) := Zb.i (i := 9) rfl; have qzb := Zb.lt; go_simp; (try with_reducible rfl))
              refine rtk 3 (oi := ⟨some 70, .move (.tmp 0), _, _, _, none⟩) (v := ?_) rfl ?_ hH ?_
              rotate_left
              · (intro wq hSw; (try dsimp only at hSw); go_simp; (try with_reducible rfl))
              try simp only [Act.put, List.setIfInBounds_toArray, List.set_cons_zero, List.set_cons_succ]
              refine rtk 4 (oi := ⟨some 71, .move (.tmp 6), _, _, _, none⟩) (v := ?_) rfl ?_ hH ?_
              rotate_left
              · (intro wq hSw; (try dsimp only at hSw); go_simp; (try with_reducible rfl))
              refine rtk 5 (oi := ⟨some 72, .indexAddr 22 (.tmp 70) (.tmp 71), _, _, _, none⟩) (v := ?_) rfl ?_ hH ?_
              rotate_left
              · (intro wq hSw; (try dsimp only at hSw); go_simp; (try with_reducible rfl))
              refine rtk 6 (oi := ⟨some 73, .fieldAddr 32 (.tmp 72) 3, _, _, _, none⟩) (v := ?_) rfl ?_ hH ?_
              rotate_left
              · (intro wq hSw; (try dsimp only at hSw); go_simp; (try with_reducible rfl))
              refine rtk 7 (oi := ⟨some 74, .load 21 (.tmp 73), _, _, _, none⟩) (v := ?_) rfl ?_ hH ?_
              rotate_left
              · (intro wq hSw; (try dsimp only at hSw); obtain ⟨Zc, Za, Zb, gK⟩ := hSw; have s4q := Kep.all gK s4; have qc0 : wq.cell? ⟨cb, 0, none⟩ = some (.int .u32 lo) := Zc.i (i := 0) rfl; have qc1 : wq.cell? ⟨cb, 1, none⟩ = some (.int .u32 x.k) := Zc.i (i := 1) rfl; have qc2 : wq.cell? ⟨cb, 2, none⟩ = some (.int .i32 c.nx) := Zc.i (i := 2) rfl; have qc3 : wq.cell? ⟨cb, 3, none⟩ = some (.int .i32 c.ny) := Zc.i (i := 3) rfl; have qc4 : wq.cell? ⟨cb, 4, none⟩ = some (.int .i32 c.dp) := Zc.i (i := 4) rfl; have qzc := Zc.lt; have qa0 : wq.cell? ⟨ab, 0, none⟩ = some (.int .u32 a.k) := Za.i (i := 0) rfl; have qa1 : wq.cell? ⟨ab, 1, none⟩ = some (.int .i32 a.r) := Za.i (i := 1) rfl; have qa2 : wq.cell? ⟨ab, 2, none⟩ = some (.int .i32 a.ax) := Za.i (i := 2) rfl; have qa3 : wq.cell? ⟨ab, 3, none⟩ = some (.int .i32 a.ay) := Za.i (i := 3) rfl; have qa4 : wq.cell? ⟨ab, 4, none⟩ = some (.int .i32 a.m) := Za.i (i := 4) rfl; have qa5 : wq.cell? ⟨ab, 5, none⟩ = some (.int .i32 a.o) := Za.i (i := 5) rfl; have qa6 : wq.cell? ⟨ab, 6, none⟩ = some (.int .i32 a.px) := Za.i (i := 6) rfl; have qa7 : wq.cell? ⟨ab, 7, none⟩ = some (.int .i32 a.py) := Za.i (i := 7) rfl; have qa8 : wq.cell? ⟨ab, 8, none⟩ = some (.int .i32 a.vx) := Za.i (i := 8) rfl; have qa9 : wq.cell? ⟨ab, 9, none⟩ = some (.int .i32 a.vy) := Za.i (i := 9) rfl; have qza := Za.lt; have qb0 : wq.cell? ⟨ab + 1, 0, none⟩ = some (.int .u32 b.k) := Zb.i (i := 0) rfl; have qb1 : wq.cell? ⟨ab + 1, 1, none⟩ = some (.int .i32 b.r) := Zb.i (i := 1) rfl; have qb2 : wq.cell? ⟨ab + 1, 2, none⟩ = some (.int .i32 b.ax) := Zb.i (i := 2) rfl; have qb3 : wq.cell? ⟨ab + 1, 3, none⟩ = some (.int .i32 b.ay) := Zb.i (i := 3) rfl; have qb4 : wq.cell? ⟨ab + 1, 4, none⟩ = some (.int .i32 b.m) := Zb.i (i := 4) rfl; have qb5 : wq.cell? ⟨ab + 1, 5, none⟩ = some (.int .i32 b.o) := Zb.i (i := 5) rfl; have qb6 : wq.cell? ⟨ab + 1, 6, none⟩ = some (.int .i32 b.px) := Zb.i (i := 6) rfl; have qb7 : wq.cell? ⟨ab + 1, 7, none⟩ = some (.int .i32 b.py) := Zb.i (i := 7) rfl; have qb8 : wq.cell? ⟨ab + 1, 8, none⟩ = some (.int .i32 b.vx) := Zb.i (i := 8) rfl; have qb9 : wq.cell? ⟨ab + 1, 9, none⟩ = some (.int .i32 b.vy) := Zb.i (i := 9) rfl; have qzb := Zb.lt; go_simp; (try with_reducible rfl))
              try simp only [Act.put, List.setIfInBounds_toArray, List.set_cons_zero, List.set_cons_succ]
              refine wpAnyH_ready (rs := [8]) (by kernel_rfl) (by simp) ?_
              refine AllReadyH.cons (o := ⟨some 75, .call { callee := .value (.func 15), args := #[.tmp 67, .tmp 68, .tmp 69, .tmp 74], argTypes := #[37, 32, 32, 21] }, _, _, _, none⟩) rfl (fun K hK => ?_) AllReadyH.nil
              go_simp
              (with_reducible refine (SH.out _).mono ?_); rintro e v13_8 ⟨rfl, g⟩
              refine hK.out _ _ (by (try dsimp only); obtain ⟨Zc, Za, Zb, gg⟩ := id hH; exact ⟨Zc.kep g, Za.kep g, Zb.kep g, kep_next gg g⟩) (fun hH2 => ?_)
              clear hK K hH; have hH := hH2; clear hH2
              refine rtk 9 (oi := ⟨some 12, .assign (.tmp 75), _, _, _, none⟩) (v := ?_) rfl ?_ hH ?_
              rotate_left
              · (intro wq hSw; (try dsimp only at hSw); go_simp; (try with_reducible rfl))
              try simp only [Act.put, List.setIfInBounds_toArray, List.set_cons_zero, List.set_cons_succ]
              refine wpAnyH_done (by kernel_rfl) ?_ _
              refine NoPanic.normal ?_
              obtain ⟨Zc, Za, Zb, gg⟩ := hH
              replace s0 := gg.all s0
              replace Zs := Zs.kep gg
              replace g6 := g6.trans (gg.mono z6)
              replace z6 := Nat.le_trans z6 gg.size
              have c0 := Zc.i (i := 0) rfl
              have c2 := Zc.i (i := 2) rfl
              have c3 := Zc.i (i := 3) rfl
              clear gg s4 Za Zb Zc
              go_upto_region 16 with (first
                | ((with_reducible refine (P1.out _).mono ?_); rintro e w9 ⟨rfl, rfl⟩)
                | ((with_reducible refine (P2.out _).mono ?_); rintro e w9 ⟨rfl, rfl⟩))
              go_quiet (fail)
              generalize hW9 : World.drewN v13_8 _ = W9
              have k9 : Kep v13_8.heap.size v13_8 W9 := by rw [← hW9]; exact kep_drewN (Kep.refl _ _) _
              replace Zs := Zs.kep k9
              replace g6 := g6.trans (k9.mono z6)
              clear hW9 k9 z6 c0 c2 c3 s0
              have z0 := Zs.i (i := 0) rfl
              have z1 := Zs.i (i := 1) rfl
              have zf0 := Zs.frz 0
              have zf1 := Zs.frz 1
              have zl := Zs.lt
              go_wp2_with fail
              have HS := Lib.hid (Zs.set [.int .i64 r1, .int .i64 r2] (by simp))
              have HK := Lib.hid (kep_setAll (b := wd.heap.size) (Nat.le_refl _) [.int .i64 r1, .int .i64 r2] 0 g6)
              simp only [setAll, Nat.zero_add] at HS HK
              go_roundw
              case rel => exact ⟨q + 1, by omega, by go_num, Lib.hid ⟨r1, r2, HRR.out.1, HRR.out.2, HS.out, HK.out⟩⟩
              case measure => simp [RowKit.intOf]; omega
            · have q2 : (hi != x.k) = true := bne_iff_ne.2 e1
              have HRR : Hid (t1 = shfI (·.nx) L (C.take (q + 1)) x ∧ t2 = shfI (·.ny) L (C.take (q + 1)) x) := Lib.hid (by rw [HA1.out, HA2.out, if_neg HE.out, if_neg HE.out, if_neg e1, if_neg e1, Int.add_zero, Int.add_zero]; exact ⟨rfl, rfl⟩)
              clear e1 hb1 hb2 hN1 hN2 HA1 HA2
              go_quiet (fail)
              go_wp2_with fail
              go_roundw
              case rel => exact ⟨q + 1, by omega, by go_num, Lib.hid ⟨t1, t2, HRR.out.1, HRR.out.2, Zs.kep (kep_drewN (Kep.refl _ _) _), kep_drewN g6 _⟩⟩
              case measure => simp [RowKit.intOf]; omega
        · obtain rfl : q = nc := by omega
          rw [List.take_of_length_le (by rw [HN.out]; omega)] at h1 h2
          have HE : Hid (shfB L C x = (t1, t2)) := Lib.hid (by unfold shfB; rw [h1, h2])
          have z0 := Zs.i (i := 0) rfl
          have z1 := Zs.i (i := 1) rfl
          have HO2 := Lib.hid (own_kep HO.out g6 (Nat.le_refl _))
          have gg2 := G1.out.trans (g6.mono G1.out.size)
          have hln := HLN.out k hk
          have zl := Zs.lt
          clear h1 h2 HP Zs g6
          go_wp2_with (first
            | (at_builtin; refine wpList_app shv 2 shv_len shv_one rfl _ _ 42 rfl 56 _ 16 Try.underlying42 info_shift rfl (by decide) w.heap.size _ _ ((L.take k).map (shfB L C)) (t1, t2) rfl HO2.out _ (by first | rfl | simp) rfl _ rfl (by rw [hln]; unfold maxLen; omega) (by rw [hln]; omega) gg2.size ?_; intro v3 w3 o3 k3))
          have HM : Hid (w3.ownsRow w.heap.size 56 2 v3 ((L.take (k + 1)).map (shfB L C)).length (((L.take (k + 1)).map (shfB L C)).flatMap shv) ∧ Kep w.heap.size w w3) := Lib.hid ⟨by rw [HTX.out, HE.out]; exact o3, gg2.trans k3⟩
          clear o3 k3 hln
          go_roundw
          case rel => exact ⟨k + 1, by omega, by go_num, HM⟩
          case measure => simp [RowKit.intOf]; omega
    · obtain rfl : k = nl := by omega
      obtain ⟨h1, h2⟩ := HP.out
      rw [List.take_of_length_le (by rw [HNL.out]; omega)] at h1
      have H1 := Lib.hid (own_sq shv_len h1)
      clear h1 HP
      go_wp2_with fail
      go_ret
      exact ⟨_, rfl, H1.out, h2⟩
end Go.Proofs.Ytlbbacmpdlghaaa
