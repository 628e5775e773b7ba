import Derived.Test.YtaknmlohnifcdaaGreatDoorJ20MCorMath
import Derived.Test.YtaknmlohnifcdaaGreatDoorJ17MRefMul
import Derived.Test.YtaknmlohnifcdaaGreatDoorJ19MCtsMath
import Derived.Test.YtaknmlohnifcdaaGreatDoorJ02MSeq
import Derived.Deep.DeepCutAuto
import Derived.Deep.QuietTactic
import Derived.BigQuiet
import Derived.Test.YtaknmlohnifcdaaGreatDoorJ14MViewMath
import Derived.Test.YtaknmlohnifcdaaGreatDoorJ05MStorePut
import Derived.Test.YtaknmlohnifcdaaGreatDoorJ01MBodies
set_option maxHeartbeats 8000000
set_option maxRecDepth 100000
namespace Go.Proofs.YtaknmlohnifcdaaGreatDoor
open Go.RowKit Go.Lib
abbrev SAm (lo hi nx ny dp : Int) (x y : Bd) (t : Int) : Prop := ∀ w, Calls Tryz.prog 70 #[.agg #[.int .u32 lo, .int .u32 hi, .int .i32 nx, .int .i32 ny, .int .i32 dp], .agg #[.int .u32 x.k, .int .i32 x.r, .int .i32 x.ax, .int .i32 x.ay, .int .i32 x.m, .int .i32 x.o, .int .i32 x.px, .int .i32 x.py, .int .i32 x.vx, .int .i32 x.vy], .agg #[.int .u32 y.k, .int .i32 y.r, .int .i32 y.ax, .int .i32 y.ay, .int .i32 y.m, .int .i32 y.o, .int .i32 y.px, .int .i32 y.py, .int .i32 y.vx, .int .i32 y.vy]] w fun e w' => e = .returned (.int .i64 t) ∧ Kep w.heap.size w w'
abbrev SSh (lo hi nx ny dp : Int) (x y : Bd) (m t : Int) : Prop := ∀ w, Calls Tryz.prog 46 #[.agg #[.int .u32 lo, .int .u32 hi, .int .i32 nx, .int .i32 ny, .int .i32 dp], .agg #[.int .u32 x.k, .int .i32 x.r, .int .i32 x.ax, .int .i32 x.ay, .int .i32 x.m, .int .i32 x.o, .int .i32 x.px, .int .i32 x.py, .int .i32 x.vx, .int .i32 x.vy], .agg #[.int .u32 y.k, .int .i32 y.r, .int .i32 y.ax, .int .i32 y.ay, .int .i32 y.m, .int .i32 y.o, .int .i32 y.px, .int .i32 y.py, .int .i32 y.vx, .int .i32 y.vy], .int .i32 m] w fun e w' => e = .returned (.int .i64 t) ∧ Kep w.heap.size w w'
theorem ram {lo hi nx ny dp : Int} {x y : Bd} {t : Int} (hx : Vb x) (hy : Vb y) (hd : Dp dp) (ht : amI dp x y = t) : SAm lo hi nx ny dp x y t := fun w => by
 obtain ⟨a1, a2, a3, a4, a5, a6, a7, a8⟩ := hx
 obtain ⟨b1, b2, b3, b4, b5, b6, b7, b8⟩ := hy
 unfold amI at ht
 obtain ⟨M, hM⟩ : ∃ z, z = x.m + y.m := ⟨_, rfl⟩
 rw [← hM] at ht
 have w1 : IntKind.i32.wrap (x.m + y.m) = M := by rw [IntKind.wrap_i32]; omega
 have w2 : wrap32 (x.m + y.m) = M := by unfold wrap32; omega
 by_cases c1 : dp ≤ 1024
 ·rw [if_pos (.inl c1)] at ht
  subst ht
  have d1 : decide (dp ≤ 1024) = true := decide_eq_true c1
  clear a1 a2 a3 a4 a5 a6 a7 a8 b1 b2 b3 b4 b5 b6 b7 b8 hd hM c1
  go_enter Tryz.func70, Tryz.ntmps70
  go_wp2_with fail
  go_ret
  exact ⟨rfl, (kep_more (kep_more (kep_more (Kep.refl _ _) _) _) _)⟩
 have d1 : decide (dp ≤ 1024) = false := decide_eq_false c1
 by_cases c2 : M = 0
 ·rw [if_pos (.inr c2)] at ht
  subst ht
  have d2 : (M == 0) = true := by simp [c2]
  clear a1 a2 a3 a4 a5 a6 a7 a8 b1 b2 b3 b4 b5 b6 b7 b8 hd hM c1 c2
  go_enter Tryz.func70, Tryz.ntmps70
  go_wp2_with fail
  go_ret
  exact ⟨rfl, (kep_more (kep_more (kep_more (Kep.refl _ _) _) _) _)⟩
 ·rw [if_neg (by omega)] at ht
  have d2 : (M == 0) = false := by simp [c2]
  obtain ⟨u, hu⟩ : ∃ z, z = dp - 1024 := ⟨_, rfl⟩
  obtain ⟨p, hp⟩ : ∃ z, z = u * 26214 := ⟨_, rfl⟩
  rw [← hu, ← hp] at ht
  have w3 : IntKind.i64.wrap dp = dp := by rw [IntKind.wrap_i64]; omega
  have w4 : IntKind.i64.wrap (dp - 1024) = u := by rw [IntKind.wrap_i64]; omega
  have w5 : IntKind.i64.wrap (u * 26214) = p := by rw [IntKind.wrap_i64]; omega
  have C2 : Hid (JFl p 65536 t) := Lib.hid (fun w => by rw [← ht]; exact reffl_any p 65536 (by unfold I64; omega) (by decide) (by decide) w)
  clear a1 a2 a3 a4 a5 a6 a7 a8 b1 b2 b3 b4 b5 b6 b7 b8 hd hM c1 c2 hu hp ht
  go_enter Tryz.func70, Tryz.ntmps70
  go_wp2_with ((with_reducible refine (C2.out _).mono ?_); rintro e w' ⟨rfl, rfl⟩)
  go_ret
  exact ⟨rfl, (kep_more (kep_more (kep_more (Kep.refl _ _) _) _) _)⟩
theorem rsh {lo hi nx ny dp : Int} {x y : Bd} {m t : Int} (hx : Vb x) (hy : Vb y) (hd : Dp dp) (hm : 0 ≤ m ∧ m ≤ 1048576) (ht : shI dp x y m = t) : SSh lo hi nx ny dp x y m t := fun w => by
 have hb := am_bd (x := x) (y := y) hd
 have C1 := Lib.hid (ram (lo := lo) (hi := hi) (nx := nx) (ny := ny) hx hy hd rfl)
 have hz : amI dp x y ≠ 0 → x.m + y.m ≠ 0 := fun h e => h (am_zero e)
 obtain ⟨a1, a2, a3, a4, a5, a6, a7, a8⟩ := hx
 obtain ⟨b1, b2, b3, b4, b5, b6, b7, b8⟩ := hy
 unfold shI at ht
 generalize amI dp x y = v at *
 by_cases c1 : v = 0
 ·rw [if_pos c1] at ht
  subst ht
  have d1 : (v == 0) = true := by simp [c1]
  clear a1 a2 a3 a4 a5 a6 a7 a8 b1 b2 b3 b4 b5 b6 b7 b8 hd hb hz hm c1
  go_enter Tryz.func46, Tryz.ntmps46
  go_wp2_with (first
   | ((with_reducible refine (C1.out _).mono ?_); rintro e w1 ⟨rfl, g1⟩
      have zQ := zK g1 (b := w.heap.size) (vs := [.int .u32 lo, .int .u32 hi, .int .i32 nx, .int .i32 ny, .int .i32 dp])
      have c0 := zI zQ 0
      have c1 := zI zQ 1
      have c2 := zI zQ 2
      have c3 := zI zQ 3
      have c4 := zI zQ 4
      clear zQ
      have zQ := zK g1 (b := w.heap.size + 1) (vs := [.int .u32 x.k, .int .i32 x.r, .int .i32 x.ax, .int .i32 x.ay, .int .i32 x.m, .int .i32 x.o, .int .i32 x.px, .int .i32 x.py, .int .i32 x.vx, .int .i32 x.vy])
      have x0 := zI zQ 0
      have x1 := zI zQ 1
      have x2 := zI zQ 2
      have x3 := zI zQ 3
      have x4 := zI zQ 4
      have x5 := zI zQ 5
      have x6 := zI zQ 6
      have x7 := zI zQ 7
      have x8 := zI zQ 8
      have x9 := zI zQ 9
      clear zQ
      have zQ := zK g1 (b := w.heap.size + 1 + 1) (vs := [.int .u32 y.k, .int .i32 y.r, .int .i32 y.ax, .int .i32 y.ay, .int .i32 y.m, .int .i32 y.o, .int .i32 y.px, .int .i32 y.py, .int .i32 y.vx, .int .i32 y.vy])
      have y0 := zI zQ 0
      have y1 := zI zQ 1
      have y2 := zI zQ 2
      have y3 := zI zQ 3
      have y4 := zI zQ 4
      have y5 := zI zQ 5
      have y6 := zI zQ 6
      have y7 := zI zQ 7
      have y8 := zI zQ 8
      have y9 := zI zQ 9
      clear zQ
      have gg := kep_next (kep_more (kep_more (kep_more (Kep.refl _ _) _) _) _) g1
      have zc_w1 : w.heap.size < w1.heap.size := World.block_lt_of_cell? _ _ c0
      have zx_w1 : w.heap.size + 1 < w1.heap.size := World.block_lt_of_cell? _ _ x0
      have zy_w1 : w.heap.size + 1 + 1 < w1.heap.size := World.block_lt_of_cell? _ _ y0))
  go_ret
  exact ⟨rfl, gg⟩
 ·rw [if_neg c1] at ht
  have d1 : (v == 0) = false := by simp [c1]
  have hM0 := hz c1
  obtain ⟨M, hM⟩ : ∃ z, z = x.m + y.m := ⟨_, rfl⟩
  have hp := mul_bd (a := v) (b := m) (A := 6710476) (B := 1048576) (by omega) (by omega)
  have hpe : (6710476 : Int) * 1048576 = 7036444082176 := by decide
  rw [hpe] at hp
  obtain ⟨p, hpp⟩ : ∃ z, z = v * m := ⟨_, rfl⟩
  rw [← hpp] at hp ht
  rw [← hM] at ht hM0
  have w1 : IntKind.i64.wrap x.m = x.m := by rw [IntKind.wrap_i64]; omega
  have w2 : IntKind.i64.wrap y.m = y.m := by rw [IntKind.wrap_i64]; omega
  have w3 : IntKind.i64.wrap (x.m + y.m) = M := by rw [IntKind.wrap_i64]; omega
  have w4 : IntKind.i64.wrap m = m := by rw [IntKind.wrap_i64]; omega
  have w5 : IntKind.i64.wrap (v * m) = p := by rw [← hpp, IntKind.wrap_i64]; omega
  have C2 : Hid (JFl p M t) := Lib.hid (fun w => by rw [← ht]; exact reffl_any p M (by unfold I64; omega) (by omega) (by omega) w)
  clear a1 a2 a3 a4 a5 a6 a7 a8 b1 b2 b3 b4 b5 b6 b7 b8 hd hb hz hm c1 hM0 hM hpp hp hpe ht
  go_enter Tryz.func46, Tryz.ntmps46
  go_wp2_with (first
   | ((with_reducible refine (C1.out _).mono ?_); rintro e w1 ⟨rfl, g1⟩
      have zQ := zK g1 (b := w.heap.size) (vs := [.int .u32 lo, .int .u32 hi, .int .i32 nx, .int .i32 ny, .int .i32 dp])
      have c0 := zI zQ 0
      have c1 := zI zQ 1
      have c2 := zI zQ 2
      have c3 := zI zQ 3
      have c4 := zI zQ 4
      clear zQ
      have zQ := zK g1 (b := w.heap.size + 1) (vs := [.int .u32 x.k, .int .i32 x.r, .int .i32 x.ax, .int .i32 x.ay, .int .i32 x.m, .int .i32 x.o, .int .i32 x.px, .int .i32 x.py, .int .i32 x.vx, .int .i32 x.vy])
      have x0 := zI zQ 0
      have x1 := zI zQ 1
      have x2 := zI zQ 2
      have x3 := zI zQ 3
      have x4 := zI zQ 4
      have x5 := zI zQ 5
      have x6 := zI zQ 6
      have x7 := zI zQ 7
      have x8 := zI zQ 8
      have x9 := zI zQ 9
      clear zQ
      have zQ := zK g1 (b := w.heap.size + 1 + 1) (vs := [.int .u32 y.k, .int .i32 y.r, .int .i32 y.ax, .int .i32 y.ay, .int .i32 y.m, .int .i32 y.o, .int .i32 y.px, .int .i32 y.py, .int .i32 y.vx, .int .i32 y.vy])
      have y0 := zI zQ 0
      have y1 := zI zQ 1
      have y2 := zI zQ 2
      have y3 := zI zQ 3
      have y4 := zI zQ 4
      have y5 := zI zQ 5
      have y6 := zI zQ 6
      have y7 := zI zQ 7
      have y8 := zI zQ 8
      have y9 := zI zQ 9
      clear zQ
      have gg := kep_next (kep_more (kep_more (kep_more (Kep.refl _ _) _) _) _) g1
      have zc_w1 : w.heap.size < w1.heap.size := World.block_lt_of_cell? _ _ c0
      have zx_w1 : w.heap.size + 1 < w1.heap.size := World.block_lt_of_cell? _ _ x0
      have zy_w1 : w.heap.size + 1 + 1 < w1.heap.size := World.block_lt_of_cell? _ _ y0)
   | ((with_reducible refine (C2.out _).mono ?_); rintro e w' ⟨rfl, rfl⟩))
  go_ret
  exact ⟨rfl, gg⟩
theorem info_shift : (Tryz.prog.info? 82).map (fun i => (i.zero, i.size, i.bytes)) = some (some (.agg #[.int .i64 0, .int .i64 0]), 2, 16) := by kernel_rfl
theorem i64_bd {p : Int} (h : -439777755136 ≤ p ∧ p ≤ 439777755136) : I64 p := by unfold I64; omega
theorem wr_nr {n : Int} (h : Nr n) : IntKind.i64.wrap n = n := by rw [IntKind.wrap_i64]; omega
theorem wr_p {p : Int} (h : -439777755136 ≤ p ∧ p ≤ 439777755136) : IntKind.i64.wrap p = p := by rw [IntKind.wrap_i64]; omega
theorem neg_bd {f : Int} (hf : -6710476 ≤ f ∧ f ≤ 6710476) : -6710476 ≤ -f ∧ -f ≤ 6710476 := by omega
theorem wr_neg {f : Int} (hf : -6710476 ≤ f ∧ f ≤ 6710476) : wrap64 (-f) = -f ∧ IntKind.i64.wrap (-f) = -f := by
 rw [IntKind.wrap_i64]
 unfold wrap64
 omega
theorem wr_add {t f : Int} (ht : -6710476000 ≤ t ∧ t ≤ 6710476000) (hf : -6710476 ≤ f ∧ f ≤ 6710476) : wrap64 (t + f) = t + f ∧ IntKind.i64.wrap (t + f) = t + f := by
 rw [IntKind.wrap_i64]
 unfold wrap64
 omega
abbrev RSf (L : List Bd) (C : List Ct) : Prop := ∀ v l w, Lst w v L → Sq ctv 5 w l C → Calls Tryz.prog 28 #[v, l] w fun e w' => ∃ v', e = .returned v' ∧ Sq shv 2 w' v' (shfL L C) ∧ Kep w.heap.size w w'
theorem rsf (L : List Bd) (hm : L.length ≤ 1000) (HV : Hid (∀ x ∈ L, Vb x)) (HA : Hid (Asc L)) (C : List Ct) (hmC : C.length ≤ 1000) (HR : Hid (∀ c ∈ C, RsC L c)) : RSf L C := fun v l w h hl => by
 have HL := Lib.hid h
 obtain ⟨bc, cc, rfl, hc⟩ := hl
 have HC := Lib.hid hc
 obtain ⟨ba, ca, rfl⟩ := h.shape
 have FD := Lib.hid (fun key w h => find_any (.slice ba L.length ca) L key w h (by omega))
 have HLA := Lib.hid (fun (k : Nat) (y : Bd) (hy : L[k]? = some y) => h.at_ hy)
 have HLN := Lib.hid (fun (k : Nat) (hk : k ≤ L.length) => (show ((L.take k).map (shfB L C)).length = k by rw [List.length_map, List.length_take]; omega))
 have HLK := Lib.hid (fun (x : Bd) (hx : x ∈ L) => (show look L x.k = some x from look_mem HA.out.once hx))
 clear h hc
 generalize hnl : L.length = nl at *
 have HNL := Lib.hid hnl
 generalize hnc : C.length = nc at *
 have HN := Lib.hid hnc
 clear hnl hnc
 go_enter Tryz.func28, Tryz.ntmps28
 go_wp2_with fail
 go_loopw [5, 6] (fun out i wr => ∃ k : Nat, k ≤ nl ∧ i = .int .i64 k ∧ Hid (wr.ownsRow w.heap.size 82 2 out ((L.take k).map (shfB L C)).length (((L.take k).map (shfB L C)).flatMap shv) ∧ Kep w.heap.size w wr)) (fun _ i _ => nl - (RowKit.intOf i).toNat)
 case atStart => exact ⟨0, by omega, rfl, Lib.hid ⟨World.ownsRow_nil _ _ _ _, Kep.refl _ _⟩⟩
 case round =>
  obtain ⟨k, hk, rfl, HP⟩ := hrel
  by_cases hlt : k < nl
  ·have hbx : L[k]? = some (L[k]'(by rw [HNL.out]; exact hlt)) := List.getElem?_eq_getElem _
   generalize L[k]'(by rw [HNL.out]; exact hlt) = x at hbx
   obtain ⟨gl, off, rfl, qx⟩ := HLA.out k x hbx
   have HLB : Hid (∀ (k : Nat) (y : Bd), L[k]? = some y → ∀ q, q < 10 → w.cell? ⟨gl, off + k * 10 + q, none⟩ = (vals y)[q]?) := Lib.hid fun k y hy => by
    obtain ⟨_, _, e, q⟩ := HLA.out k y hy
    injection e with e
    injection e with e1 e2
    subst e1 e2
    exact q
   have hxm := List.mem_of_getElem? hbx
   have HXV := Lib.hid (HV.out x hxm)
   have HXM := Lib.hid hxm
   have HTX := Lib.hid (show (L.take (k + 1)).map (shfB L C) = (L.take k).map (shfB L C) ++ [shfB L C x] by rw [List.take_add_one, hbx, List.map_append]; rfl)
   have HS0 := Lib.hid (qx 0 (by decide))
   have HS4 := Lib.hid (qx 4 (by decide))
   obtain ⟨wd, hwd⟩ : ∃ z, z = wr := ⟨_, rfl⟩
   subst hwd
   have HO := Lib.hid HP.out.1
   have G1 := Lib.hid HP.out.2
   clear HP qx hbx hxm
   go_wp2_with fail
   generalize hW : World.alloc wd _ = Wb
   have HB0 : Hid (ZC Wb wd.heap.size [.int .i64 0, .int .i64 0] ∧ Kep wd.heap.size wd Wb) := Lib.hid (by rw [← hW]; exact ⟨zc_new _ _ _, kep_more (Kep.refl _ _) _⟩)
   clear hW
   go_loopw [8] (fun j wr => ∃ q : Nat, q ≤ nc ∧ j = .int .i64 q ∧ Hid (∃ t1 t2 : Int, t1 = shfI (·.nx) L (C.take q) x ∧ t2 = shfI (·.ny) L (C.take q) x ∧ ZC wr wd.heap.size [.int .i64 t1, .int .i64 t2] ∧ Kep wd.heap.size wd wr)) (fun j _ => nc - (RowKit.intOf j).toNat)
   case atStart => exact ⟨0, by omega, rfl, Lib.hid ⟨0, 0, by simp [shfI, isum], by simp [shfI, isum], HB0.out.1, HB0.out.2⟩⟩
   case round =>
    obtain ⟨q, hq, rfl, HP⟩ := hrel
    obtain ⟨t1, t2, h1, h2, Zs, g6⟩ := HP.out
    by_cases hlt2 : q < nc
    ·have hb : C[q]? = some (C[q]'(by rw [HN.out]; exact hlt2)) := List.getElem?_eq_getElem _
     generalize C[q]'(by rw [HN.out]; exact hlt2) = c at hb
     obtain ⟨gc, oc, rfl, qc⟩ := HC.out q c hb
     have hrc := HR.out c (List.mem_of_getElem? hb)
     obtain ⟨a, ha⟩ := Option.isSome_iff_exists.1 hrc.lo
     obtain ⟨b, hbb⟩ := Option.isSome_iff_exists.1 hrc.hi
     obtain ⟨ja, hja, hga⟩ := (place_eq L c.lo 0).2 a ha
     obtain ⟨jb, hjb, hgb⟩ := (place_eq L c.hi 0).2 b hbb
     rw [Nat.zero_add] at hja hjb
     have hjal : ja < nl := by have := (List.getElem?_eq_some_iff.1 hga).1; rw [HNL.out] at this; exact this
     have hjbl : jb < nl := by have := (List.getElem?_eq_some_iff.1 hgb).1; rw [HNL.out] at this; exact this
     have FA := Lib.hid (fun w h => (show Calls Tryz.prog 31 #[.slice (some ⟨gl, off, none⟩) nl ca, .int .u32 c.lo] w fun e w' => e = .returned (.int .i64 (ja : Int)) ∧ w = w' by rw [← hja]; exact FD.out c.lo w h))
     have FB := Lib.hid (fun w h => (show Calls Tryz.prog 31 #[.slice (some ⟨gl, off, none⟩) nl ca, .int .u32 c.hi] w fun e w' => e = .returned (.int .i64 (jb : Int)) ∧ w = w' by rw [← hjb]; exact FD.out c.hi w h))
     obtain ⟨n, hn⟩ : ∃ n, n = shI c.dp a b x.m := ⟨_, rfl⟩
     have SH := Lib.hid (rsh (lo := c.lo) (hi := c.hi) (nx := c.nx) (ny := c.ny) (t := n) (HV.out a (look_some ha).1) (HV.out b (look_some hbb).1) hrc.dp ⟨HXV.out.m0, HXV.out.m1⟩ hn.symm)
     have HOS : Hid (c.lo = x.k ∨ c.hi = x.k → 0 ≤ n ∧ n ≤ 6710476) := Lib.hid (fun hk => by
      have := own_share HLK.out HV.out HXM.out hrc hk
      rw [bdK_eq ha, bdK_eq hbb, ← hn] at this
      exact this)
     have hb1 := shf_bd (f := (·.nx)) (C := C.take q) HLK.out HV.out HXM.out (fun c hc => HR.out c (List.mem_of_mem_take hc)) (fun c hc => (HR.out c (List.mem_of_mem_take hc)).nx) (by rw [List.length_take]; omega)
     have hb2 := shf_bd (f := (·.ny)) (C := C.take q) HLK.out HV.out HXM.out (fun c hc => HR.out c (List.mem_of_mem_take hc)) (fun c hc => (HR.out c (List.mem_of_mem_take hc)).ny) (by rw [List.length_take]; omega)
     rw [← h1] at hb1
     rw [← h2] at hb2
     have HA1 := Lib.hid (shf_at (f := (·.nx)) (L := L) (x := x) hb)
     have HA2 := Lib.hid (shf_at (f := (·.ny)) (L := L) (x := x) hb)
     rw [conS_at ha hbb, ← hn, ← h1] at HA1
     rw [conS_at ha hbb, ← hn, ← h2] at HA2
     have hga2 := Lib.hid (HLB.out ja a hga)
     have hgb2 := Lib.hid (HLB.out jb b hgb)
     have hN1 := hrc.nx
     have hN2 := hrc.ny
     have hgc : gc < w.heap.size := World.block_lt_of_cell? _ _ (qc 0 _ rfl)
     have gw := G1.out.trans (g6.mono G1.out.size)
     have t3_0 : wr.cell? ⟨gc, oc + q * 5, none⟩ = some (.int .u32 c.lo) := gw.all (qc 0 _ rfl)
     have t3_1 : wr.cell? ⟨gc, oc + q * 5 + 1, none⟩ = some (.int .u32 c.hi) := gw.all (qc 1 _ rfl)
     have t3_2 : wr.cell? ⟨gc, oc + q * 5 + 2, none⟩ = some (.int .i32 c.nx) := gw.all (qc 2 _ rfl)
     have t3_3 : wr.cell? ⟨gc, oc + q * 5 + 3, none⟩ = some (.int .i32 c.ny) := gw.all (qc 3 _ rfl)
     have t3_4 : wr.cell? ⟨gc, oc + q * 5 + 4, none⟩ = some (.int .i32 c.dp) := gw.all (qc 4 _ rfl)
     have z6 := g6.size
     clear hb hrc ha hbb hja hjb hga hgb hn qc HP h1 h2
     have i1 : (0 : Int) ≤ (ja : Int) := by omega
     have i2 : (ja : Int) < (nl : Int) := by omega
     have i3 : (0 : Int) ≤ (jb : Int) := by omega
     have i4 : (jb : Int) < (nl : Int) := by omega
     have i5 : (0 : Int) ≤ (k : Int) := by omega
     have i6 : (k : Int) < (nl : Int) := by omega
     go_wp2_with fail
     generalize hW : World.alloc wr _ = W6
     have Zc : ZC W6 wr.heap.size [.int .u32 c.lo, .int .u32 c.hi, .int .i32 c.nx, .int .i32 c.ny, .int .i32 c.dp] := by rw [← hW]; exact zc_new _ _ _
     have kW : Kep wr.heap.size wr W6 := by rw [← hW]; exact kep_more (Kep.refl _ _) _
     clear hW
     replace Zs := Zs.kep kW
     replace gw := gw.trans (kW.mono (Nat.le_trans G1.out.size z6))
     replace g6 := g6.trans (kW.mono z6)
     replace z6 := Nat.le_trans z6 kW.size
     have c0 := Zc.i (i := 0) rfl
     have c1 := Zc.i (i := 1) rfl
     have s0 : W6.cell? ⟨gl, off + k * 10, none⟩ = some (.int .u32 x.k) := gw.all HS0.out
     have s4 : W6.cell? ⟨gl, off + k * 10 + 4, none⟩ = some (.int .i32 x.m) := gw.all HS4.out
     have a0 : W6.cell? ⟨gl, off + ja * 10, none⟩ = some (.int .u32 a.k) := gw.all (hga2.out 0 (by decide))
     have a1 : W6.cell? ⟨gl, off + ja * 10 + 1, none⟩ = some (.int .i32 a.r) := gw.all (hga2.out 1 (by decide))
     have a2 : W6.cell? ⟨gl, off + ja * 10 + 2, none⟩ = some (.int .i32 a.ax) := gw.all (hga2.out 2 (by decide))
     have a3 : W6.cell? ⟨gl, off + ja * 10 + 3, none⟩ = some (.int .i32 a.ay) := gw.all (hga2.out 3 (by decide))
     have a4 : W6.cell? ⟨gl, off + ja * 10 + 4, none⟩ = some (.int .i32 a.m) := gw.all (hga2.out 4 (by decide))
     have a5 : W6.cell? ⟨gl, off + ja * 10 + 5, none⟩ = some (.int .i32 a.o) := gw.all (hga2.out 5 (by decide))
     have a6 : W6.cell? ⟨gl, off + ja * 10 + 6, none⟩ = some (.int .i32 a.px) := gw.all (hga2.out 6 (by decide))
     have a7 : W6.cell? ⟨gl, off + ja * 10 + 7, none⟩ = some (.int .i32 a.py) := gw.all (hga2.out 7 (by decide))
     have a8 : W6.cell? ⟨gl, off + ja * 10 + 8, none⟩ = some (.int .i32 a.vx) := gw.all (hga2.out 8 (by decide))
     have a9 : W6.cell? ⟨gl, off + ja * 10 + 9, none⟩ = some (.int .i32 a.vy) := gw.all (hga2.out 9 (by decide))
     have b0 : W6.cell? ⟨gl, off + jb * 10, none⟩ = some (.int .u32 b.k) := gw.all (hgb2.out 0 (by decide))
     have b1 : W6.cell? ⟨gl, off + jb * 10 + 1, none⟩ = some (.int .i32 b.r) := gw.all (hgb2.out 1 (by decide))
     have b2 : W6.cell? ⟨gl, off + jb * 10 + 2, none⟩ = some (.int .i32 b.ax) := gw.all (hgb2.out 2 (by decide))
     have b3 : W6.cell? ⟨gl, off + jb * 10 + 3, none⟩ = some (.int .i32 b.ay) := gw.all (hgb2.out 3 (by decide))
     have b4 : W6.cell? ⟨gl, off + jb * 10 + 4, none⟩ = some (.int .i32 b.m) := gw.all (hgb2.out 4 (by decide))
     have b5 : W6.cell? ⟨gl, off + jb * 10 + 5, none⟩ = some (.int .i32 b.o) := gw.all (hgb2.out 5 (by decide))
     have b6 : W6.cell? ⟨gl, off + jb * 10 + 6, none⟩ = some (.int .i32 b.px) := gw.all (hgb2.out 6 (by decide))
     have b7 : W6.cell? ⟨gl, off + jb * 10 + 7, none⟩ = some (.int .i32 b.py) := gw.all (hgb2.out 7 (by decide))
     have b8 : W6.cell? ⟨gl, off + jb * 10 + 8, none⟩ = some (.int .i32 b.vx) := gw.all (hgb2.out 8 (by decide))
     have b9 : W6.cell? ⟨gl, off + jb * 10 + 9, none⟩ = some (.int .i32 b.vy) := gw.all (hgb2.out 9 (by decide))
     clear t3_0 t3_1 t3_2 t3_3 t3_4 kW gw
     generalize wr.heap.size = cb at *
     generalize c.lo = lo at *
     generalize c.hi = hi at *
     by_cases e0 : lo = x.k
     ·have hn := HOS.out (.inl e0)
      rw [if_pos e0] at HA1 HA2
      rw [e0] at c0 FA SH Zc
      clear e0
      obtain ⟨p1, hp1⟩ : ∃ z, z = n * c.nx := ⟨_, rfl⟩
      obtain ⟨p2, hp2⟩ : ∃ z, z = n * c.ny := ⟨_, rfl⟩
      have B1 := shn_bd hn hN1
      have B2 := shn_bd hn hN2
      rw [← hp1] at B1
      rw [← hp2] at B2
      obtain ⟨fx, hfx⟩ : ∃ z, z = p1 / 65536 := ⟨_, rfl⟩
      obtain ⟨fy, hfy⟩ : ∃ z, z = p2 / 65536 := ⟨_, rfl⟩
      rw [← hfx] at B1
      rw [← hfy] at B2
      have P1 : Hid (JFl p1 65536 fx) := Lib.hid (fun w => by rw [hfx]; exact reffl_any p1 65536 (i64_bd B1.1) (by decide) (by decide) w)
      have P2 : Hid (JFl p2 65536 fy) := Lib.hid (fun w => by rw [hfy]; exact reffl_any p2 65536 (i64_bd B2.1) (by decide) (by decide) w)
      have y1 : IntKind.i64.wrap c.nx = c.nx := wr_nr hN1
      have y2 : IntKind.i64.wrap c.ny = c.ny := wr_nr hN2
      have y3 : IntKind.i64.wrap (n * c.nx) = p1 := by rw [← hp1]; exact wr_p B1.1
      have y4 : IntKind.i64.wrap (n * c.ny) = p2 := by rw [← hp2]; exact wr_p B2.1
      rw [hp1] at hfx
      rw [hp2] at hfy
      obtain ⟨m1, hm1⟩ : ∃ z, z = -fx := ⟨_, rfl⟩
      obtain ⟨m2, hm2⟩ : ∃ z, z = -fy := ⟨_, rfl⟩
      have u1 : wrap64 (-fx) = m1 := by rw [hm1]; exact (wr_neg B1.2).1
      have u2 : wrap64 (-fy) = m2 := by rw [hm2]; exact (wr_neg B2.2).1
      have u3 : IntKind.i64.wrap (-fx) = m1 := by rw [hm1]; exact (wr_neg B1.2).2
      have M1 : -6710476 ≤ m1 ∧ m1 ≤ 6710476 := by rw [hm1]; exact neg_bd B1.2
      have u4 : IntKind.i64.wrap (-fy) = m2 := by rw [hm2]; exact (wr_neg B2.2).2
      have M2 : -6710476 ≤ m2 ∧ m2 ≤ 6710476 := by rw [hm2]; exact neg_bd B2.2
      obtain ⟨r1, hr1⟩ : ∃ z, z = t1 + m1 := ⟨_, rfl⟩
      obtain ⟨r2, hr2⟩ : ∃ z, z = t2 + m2 := ⟨_, rfl⟩
      have u5 : wrap64 (t1 + m1) = r1 := by rw [hr1]; exact (wr_add hb1 M1).1
      have u6 : wrap64 (t2 + m2) = r2 := by rw [hr2]; exact (wr_add hb2 M2).1
      have u7 : IntKind.i64.wrap (t1 + m1) = r1 := by rw [hr1]; exact (wr_add hb1 M1).2
      have u8 : IntKind.i64.wrap (t2 + m2) = r2 := by rw [hr2]; exact (wr_add hb2 M2).2
      have HRR : Hid (r1 = shfI (·.nx) L (C.take (q + 1)) x ∧ r2 = shfI (·.ny) L (C.take (q + 1)) x) := Lib.hid (by rw [HA1.out, HA2.out, ← hfx, ← hfy, hr1, hr2, hm1, hm2]; exact ⟨rfl, rfl⟩)
      clear M1 M2 hm1 hm2 hr1 hr2 hfx hfy hb1 hb2 hp1 hp2 B1 B2 hn HA1 HA2 hN1 hN2
      go_quiet (fail)
      generalize hW8 : World.drewN W6 _ = W8
      have k8 : Kep W6.heap.size W6 W8 := by rw [← hW8]; exact kep_drewN (Kep.refl _ _) _
      replace c0 := k8.all c0
      replace c1 := k8.all c1
      replace s0 := k8.all s0
      replace s4 := k8.all s4
      replace a0 := k8.all a0
      replace a1 := k8.all a1
      replace a2 := k8.all a2
      replace a3 := k8.all a3
      replace a4 := k8.all a4
      replace a5 := k8.all a5
      replace a6 := k8.all a6
      replace a7 := k8.all a7
      replace a8 := k8.all a8
      replace a9 := k8.all a9
      replace b0 := k8.all b0
      replace b1 := k8.all b1
      replace b2 := k8.all b2
      replace b3 := k8.all b3
      replace b4 := k8.all b4
      replace b5 := k8.all b5
      replace b6 := k8.all b6
      replace b7 := k8.all b7
      replace b8 := k8.all b8
      replace b9 := k8.all b9
      replace Zc := Zc.kep k8
      replace Zs := Zs.kep k8
      replace g6 := g6.trans (k8.mono z6)
      replace z6 := Nat.le_trans z6 k8.size
      have zg : gl < W8.heap.size := World.block_lt_of_cell? _ _ s0
      have zc := Zc.lt
      clear hW8 k8
      have LD := Lib.hid (HL.out.kep (G1.out.trans (g6.mono G1.out.size)))
      go_upto_region 13 with (first
       | ((with_reducible refine (FA.out _ LD.out).mono ?_); rintro e w4 ⟨rfl, rfl⟩)
       | ((with_reducible refine (FB.out _ (LD.out.kep (kep_more (Kep.refl _ _) _))).mono ?_); rintro e w4 ⟨rfl, rfl⟩))
      generalize hW : World.alloc (World.alloc W8 _) _ = W12
      have Za : ZC W12 (W8.heap.size) [.int .u32 a.k, .int .i32 a.r, .int .i32 a.ax, .int .i32 a.ay, .int .i32 a.m, .int .i32 a.o, .int .i32 a.px, .int .i32 a.py, .int .i32 a.vx, .int .i32 a.vy] := by rw [← hW]; exact ZC.more (zc_new' _ _ _ rfl) _
      have Zb : ZC W12 (W8.heap.size + 1) [.int .u32 b.k, .int .i32 b.r, .int .i32 b.ax, .int .i32 b.ay, .int .i32 b.m, .int .i32 b.o, .int .i32 b.px, .int .i32 b.py, .int .i32 b.vx, .int .i32 b.vy] := by rw [← hW]; exact zc_new' _ _ _ (by simp)
      have k8 : Kep W8.heap.size W8 W12 := by rw [← hW]; exact kep_more (kep_more (Kep.refl _ _) _) _
      clear hW
      replace s0 := k8.all s0
      replace s4 := k8.all s4
      replace Zc := Zc.kep k8
      replace Zs := Zs.kep k8
      replace g6 := g6.trans (k8.mono z6)
      replace z6 := Nat.le_trans z6 k8.size
      have gg : Kep W12.heap.size W12 W12 := Kep.refl _ _
      clear k8 zg zc LD c0 c1 a0 b0 a1 b1 a2 b2 a3 b3 a4 b4 a5 b5 a6 b6 a7 b7 a8 b8 a9 b9
      generalize W8.heap.size = ab at *
      refine wp_region_noPanic ?_
      refine wp_region_held_drew (S := (fun w' => ZC w' (cb) [.int .u32 x.k, .int .u32 hi, .int .i32 c.nx, .int .i32 c.ny, .int .i32 c.dp] ∧ ZC w' (ab) [.int .u32 a.k, .int .i32 a.r, .int .i32 a.ax, .int .i32 a.ay, .int .i32 a.m, .int .i32 a.o, .int .i32 a.px, .int .i32 a.py, .int .i32 a.vx, .int .i32 a.vy] ∧ ZC w' (ab + 1) [.int .u32 b.k, .int .i32 b.r, .int .i32 b.ax, .int .i32 b.ay, .int .i32 b.m, .int .i32 b.o, .int .i32 b.px, .int .i32 b.py, .int .i32 b.vx, .int .i32 b.vy] ∧ Kep W12.heap.size W12 w')) (by kernel_rfl) (⟨Zc.drew, Za.drew, Zb.drew, kep_drew gg⟩) (fun hH => ?_)
      clear Zc Za Zb gg
      refine rtk 0 (oi := ⟨some 67, .load 77 (.tmp 9), _, _, _, none⟩) (v := ?_) rfl ?_ hH ?_
      rotate_left
      ·(intro wq hSw; (try dsimp only at hSw); obtain ⟨Zc, Za, Zb, gK⟩ := hSw; have s4q := Kep.all gK s4; replace Zc := za_of Zc; replace Za := za_of Za; replace Zb := za_of Zb; go_simp; (try with_reducible rfl))
      refine rtk 1 (oi := ⟨some 68, .load 40 (.tmp 10), _, _, _, none⟩) (v := ?_) rfl ?_ hH ?_
      rotate_left
      ·(intro wq hSw; (try dsimp only at hSw); obtain ⟨Zc, Za, Zb, gK⟩ := hSw; have s4q := Kep.all gK s4; replace Zc := za_of Zc; replace Za := za_of Za; replace Zb := za_of Zb; go_simp; (try with_reducible rfl))
      refine rtk 2 (oi := ⟨some 69, .load 40 (.tmp 11), _, _, _, none⟩) (v := ?_) rfl ?_ hH ?_
      rotate_left
      ·(intro wq hSw; (try dsimp only at hSw); obtain ⟨Zc, Za, Zb, gK⟩ := hSw; have s4q := Kep.all gK s4; replace Zc := za_of Zc; replace Za := za_of Za; replace Zb := za_of Zb; go_simp; (try with_reducible rfl))
      refine sN 3 hH ?_
      refine sT 4 hH ?_
      refine sT 5 hH ?_
      refine sT 6 hH ?_
      refine rtk 7 (oi := ⟨some 74, .load 21 (.tmp 73), _, _, _, none⟩) (v := ?_) rfl ?_ hH ?_
      rotate_left
      ·(intro wq hSw; (try dsimp only at hSw); obtain ⟨Zc, Za, Zb, gK⟩ := hSw; have s4q := Kep.all gK s4; replace Zc := za_of Zc; replace Za := za_of Za; replace Zb := za_of Zb; go_simp; (try with_reducible rfl))
      try simp only [Act.put, List.setIfInBounds_toArray, List.set_cons_zero, List.set_cons_succ]
      refine sC 8 (fun K hK => ?_)
      go_simp
      (with_reducible refine (SH.out _).mono ?_); rintro e v13_8 ⟨rfl, g⟩
      refine hK.out _ _ (by (try dsimp only); obtain ⟨Zc, Za, Zb, gg⟩ := id hH; exact ⟨Zc.kep g, Za.kep g, Zb.kep g, kep_next gg g⟩) (fun hH2 => ?_)
      clear hK K hH; have hH := hH2; clear hH2
      refine sN 9 hH ?_
      refine sE ?_
      obtain ⟨Zc, Za, Zb, gg⟩ := hH
      replace s0 := gg.all s0
      replace Zs := Zs.kep gg
      replace g6 := g6.trans (gg.mono z6)
      replace z6 := Nat.le_trans z6 gg.size
      have c0 := Zc.i (i := 0) rfl
      have c2 := Zc.i (i := 2) rfl
      have c3 := Zc.i (i := 3) rfl
      clear gg s4 Za Zb Zc
      go_upto_region 16 with (first
       | ((with_reducible refine (P1.out _).mono ?_); rintro e w9 ⟨rfl, rfl⟩)
       | ((with_reducible refine (P2.out _).mono ?_); rintro e w9 ⟨rfl, rfl⟩))
      go_quiet (fail)
      generalize hW9 : World.drewN v13_8 _ = W9
      have k9 : Kep v13_8.heap.size v13_8 W9 := by rw [← hW9]; exact kep_drewN (Kep.refl _ _) _
      replace Zs := Zs.kep k9
      replace g6 := g6.trans (k9.mono z6)
      clear hW9 k9 z6 c0 c2 c3 s0
      have z0 := Zs.i (i := 0) rfl
      have z1 := Zs.i (i := 1) rfl
      have zf0 := Zs.frz 0
      have zf1 := Zs.frz 1
      have zl := Zs.lt
      go_wp2_with fail
      have HS := Lib.hid (Zs.set [.int .i64 r1, .int .i64 r2] (by simp))
      have HK := Lib.hid (kep_setAll (b := wd.heap.size) (Nat.le_refl _) [.int .i64 r1, .int .i64 r2] 0 g6)
      simp only [setAll, Nat.zero_add] at HS HK
      go_roundw
      case rel => exact ⟨q + 1, by omega, by go_num, Lib.hid ⟨r1, r2, HRR.out.1, HRR.out.2, HS.out, HK.out⟩⟩
      case measure => simp [RowKit.intOf]; omega
     ·have q1 : (lo != x.k) = true := bne_iff_ne.2 e0
      have q3 : (lo == x.k) = false := beq_eq_false_iff_ne.2 e0
      have HE := Lib.hid e0
      clear e0
      by_cases e1 : hi = x.k
      ·have hn := HOS.out (.inr e1)
       rw [if_neg HE.out, if_pos e1] at HA1 HA2
       rw [e1] at c1 FB SH Zc
       clear e1
       obtain ⟨p1, hp1⟩ : ∃ z, z = n * c.nx := ⟨_, rfl⟩
       obtain ⟨p2, hp2⟩ : ∃ z, z = n * c.ny := ⟨_, rfl⟩
       have B1 := shn_bd hn hN1
       have B2 := shn_bd hn hN2
       rw [← hp1] at B1
       rw [← hp2] at B2
       obtain ⟨fx, hfx⟩ : ∃ z, z = p1 / 65536 := ⟨_, rfl⟩
       obtain ⟨fy, hfy⟩ : ∃ z, z = p2 / 65536 := ⟨_, rfl⟩
       rw [← hfx] at B1
       rw [← hfy] at B2
       have P1 : Hid (JFl p1 65536 fx) := Lib.hid (fun w => by rw [hfx]; exact reffl_any p1 65536 (i64_bd B1.1) (by decide) (by decide) w)
       have P2 : Hid (JFl p2 65536 fy) := Lib.hid (fun w => by rw [hfy]; exact reffl_any p2 65536 (i64_bd B2.1) (by decide) (by decide) w)
       have y1 : IntKind.i64.wrap c.nx = c.nx := wr_nr hN1
       have y2 : IntKind.i64.wrap c.ny = c.ny := wr_nr hN2
       have y3 : IntKind.i64.wrap (n * c.nx) = p1 := by rw [← hp1]; exact wr_p B1.1
       have y4 : IntKind.i64.wrap (n * c.ny) = p2 := by rw [← hp2]; exact wr_p B2.1
       rw [hp1] at hfx
       rw [hp2] at hfy
       obtain ⟨r1, hr1⟩ : ∃ z, z = t1 + fx := ⟨_, rfl⟩
       obtain ⟨r2, hr2⟩ : ∃ z, z = t2 + fy := ⟨_, rfl⟩
       have u5 : wrap64 (t1 + fx) = r1 := by rw [hr1]; exact (wr_add hb1 B1.2).1
       have u6 : wrap64 (t2 + fy) = r2 := by rw [hr2]; exact (wr_add hb2 B2.2).1
       have u7 : IntKind.i64.wrap (t1 + fx) = r1 := by rw [hr1]; exact (wr_add hb1 B1.2).2
       have u8 : IntKind.i64.wrap (t2 + fy) = r2 := by rw [hr2]; exact (wr_add hb2 B2.2).2
       have HRR : Hid (r1 = shfI (·.nx) L (C.take (q + 1)) x ∧ r2 = shfI (·.ny) L (C.take (q + 1)) x) := Lib.hid (by rw [HA1.out, HA2.out, ← hfx, ← hfy, hr1, hr2]; exact ⟨rfl, rfl⟩)
       clear hr1 hr2 hfx hfy hb1 hb2 hp1 hp2 B1 B2 hn HA1 HA2 hN1 hN2
       go_quiet (fail)
       generalize hW8 : World.drewN W6 _ = W8
       have k8 : Kep W6.heap.size W6 W8 := by rw [← hW8]; exact kep_drewN (Kep.refl _ _) _
       replace c0 := k8.all c0
       replace c1 := k8.all c1
       replace s0 := k8.all s0
       replace s4 := k8.all s4
       replace a0 := k8.all a0
       replace a1 := k8.all a1
       replace a2 := k8.all a2
       replace a3 := k8.all a3
       replace a4 := k8.all a4
       replace a5 := k8.all a5
       replace a6 := k8.all a6
       replace a7 := k8.all a7
       replace a8 := k8.all a8
       replace a9 := k8.all a9
       replace b0 := k8.all b0
       replace b1 := k8.all b1
       replace b2 := k8.all b2
       replace b3 := k8.all b3
       replace b4 := k8.all b4
       replace b5 := k8.all b5
       replace b6 := k8.all b6
       replace b7 := k8.all b7
       replace b8 := k8.all b8
       replace b9 := k8.all b9
       replace Zc := Zc.kep k8
       replace Zs := Zs.kep k8
       replace g6 := g6.trans (k8.mono z6)
       replace z6 := Nat.le_trans z6 k8.size
       have zg : gl < W8.heap.size := World.block_lt_of_cell? _ _ s0
       have zc := Zc.lt
       clear hW8 k8
       have LD := Lib.hid (HL.out.kep (G1.out.trans (g6.mono G1.out.size)))
       go_upto_region 13 with (first
        | ((with_reducible refine (FA.out _ LD.out).mono ?_); rintro e w4 ⟨rfl, rfl⟩)
        | ((with_reducible refine (FB.out _ (LD.out.kep (kep_more (Kep.refl _ _) _))).mono ?_); rintro e w4 ⟨rfl, rfl⟩))
       generalize hW : World.alloc (World.alloc W8 _) _ = W12
       have Za : ZC W12 (W8.heap.size) [.int .u32 a.k, .int .i32 a.r, .int .i32 a.ax, .int .i32 a.ay, .int .i32 a.m, .int .i32 a.o, .int .i32 a.px, .int .i32 a.py, .int .i32 a.vx, .int .i32 a.vy] := by rw [← hW]; exact ZC.more (zc_new' _ _ _ rfl) _
       have Zb : ZC W12 (W8.heap.size + 1) [.int .u32 b.k, .int .i32 b.r, .int .i32 b.ax, .int .i32 b.ay, .int .i32 b.m, .int .i32 b.o, .int .i32 b.px, .int .i32 b.py, .int .i32 b.vx, .int .i32 b.vy] := by rw [← hW]; exact zc_new' _ _ _ (by simp)
       have k8 : Kep W8.heap.size W8 W12 := by rw [← hW]; exact kep_more (kep_more (Kep.refl _ _) _) _
       clear hW
       replace s0 := k8.all s0
       replace s4 := k8.all s4
       replace Zc := Zc.kep k8
       replace Zs := Zs.kep k8
       replace g6 := g6.trans (k8.mono z6)
       replace z6 := Nat.le_trans z6 k8.size
       have gg : Kep W12.heap.size W12 W12 := Kep.refl _ _
       clear k8 zg zc LD c0 c1 a0 b0 a1 b1 a2 b2 a3 b3 a4 b4 a5 b5 a6 b6 a7 b7 a8 b8 a9 b9
       generalize W8.heap.size = ab at *
       refine wp_region_noPanic ?_
       refine wp_region_held_drew (S := (fun w' => ZC w' (cb) [.int .u32 lo, .int .u32 x.k, .int .i32 c.nx, .int .i32 c.ny, .int .i32 c.dp] ∧ ZC w' (ab) [.int .u32 a.k, .int .i32 a.r, .int .i32 a.ax, .int .i32 a.ay, .int .i32 a.m, .int .i32 a.o, .int .i32 a.px, .int .i32 a.py, .int .i32 a.vx, .int .i32 a.vy] ∧ ZC w' (ab + 1) [.int .u32 b.k, .int .i32 b.r, .int .i32 b.ax, .int .i32 b.ay, .int .i32 b.m, .int .i32 b.o, .int .i32 b.px, .int .i32 b.py, .int .i32 b.vx, .int .i32 b.vy] ∧ Kep W12.heap.size W12 w')) (by kernel_rfl) (⟨Zc.drew, Za.drew, Zb.drew, kep_drew gg⟩) (fun hH => ?_)
       clear Zc Za Zb gg
       refine rtk 0 (oi := ⟨some 67, .load 77 (.tmp 9), _, _, _, none⟩) (v := ?_) rfl ?_ hH ?_
       rotate_left
       ·(intro wq hSw; (try dsimp only at hSw); obtain ⟨Zc, Za, Zb, gK⟩ := hSw; have s4q := Kep.all gK s4; replace Zc := za_of Zc; replace Za := za_of Za; replace Zb := za_of Zb; go_simp; (try with_reducible rfl))
       refine rtk 1 (oi := ⟨some 68, .load 40 (.tmp 10), _, _, _, none⟩) (v := ?_) rfl ?_ hH ?_
       rotate_left
       ·(intro wq hSw; (try dsimp only at hSw); obtain ⟨Zc, Za, Zb, gK⟩ := hSw; have s4q := Kep.all gK s4; replace Zc := za_of Zc; replace Za := za_of Za; replace Zb := za_of Zb; go_simp; (try with_reducible rfl))
       refine rtk 2 (oi := ⟨some 69, .load 40 (.tmp 11), _, _, _, none⟩) (v := ?_) rfl ?_ hH ?_
       rotate_left
       ·(intro wq hSw; (try dsimp only at hSw); obtain ⟨Zc, Za, Zb, gK⟩ := hSw; have s4q := Kep.all gK s4; replace Zc := za_of Zc; replace Za := za_of Za; replace Zb := za_of Zb; go_simp; (try with_reducible rfl))
       refine sN 3 hH ?_
       refine sT 4 hH ?_
       refine sT 5 hH ?_
       refine sT 6 hH ?_
       refine rtk 7 (oi := ⟨some 74, .load 21 (.tmp 73), _, _, _, none⟩) (v := ?_) rfl ?_ hH ?_
       rotate_left
       ·(intro wq hSw; (try dsimp only at hSw); obtain ⟨Zc, Za, Zb, gK⟩ := hSw; have s4q := Kep.all gK s4; replace Zc := za_of Zc; replace Za := za_of Za; replace Zb := za_of Zb; go_simp; (try with_reducible rfl))
       try simp only [Act.put, List.setIfInBounds_toArray, List.set_cons_zero, List.set_cons_succ]
       refine sC 8 (fun K hK => ?_)
       go_simp
       (with_reducible refine (SH.out _).mono ?_); rintro e v13_8 ⟨rfl, g⟩
       refine hK.out _ _ (by (try dsimp only); obtain ⟨Zc, Za, Zb, gg⟩ := id hH; exact ⟨Zc.kep g, Za.kep g, Zb.kep g, kep_next gg g⟩) (fun hH2 => ?_)
       clear hK K hH; have hH := hH2; clear hH2
       refine sN 9 hH ?_
       refine sE ?_
       obtain ⟨Zc, Za, Zb, gg⟩ := hH
       replace s0 := gg.all s0
       replace Zs := Zs.kep gg
       replace g6 := g6.trans (gg.mono z6)
       replace z6 := Nat.le_trans z6 gg.size
       have c0 := Zc.i (i := 0) rfl
       have c2 := Zc.i (i := 2) rfl
       have c3 := Zc.i (i := 3) rfl
       clear gg s4 Za Zb Zc
       go_upto_region 16 with (first
        | ((with_reducible refine (P1.out _).mono ?_); rintro e w9 ⟨rfl, rfl⟩)
        | ((with_reducible refine (P2.out _).mono ?_); rintro e w9 ⟨rfl, rfl⟩))
       go_quiet (fail)
       generalize hW9 : World.drewN v13_8 _ = W9
       have k9 : Kep v13_8.heap.size v13_8 W9 := by rw [← hW9]; exact kep_drewN (Kep.refl _ _) _
       replace Zs := Zs.kep k9
       replace g6 := g6.trans (k9.mono z6)
       clear hW9 k9 z6 c0 c2 c3 s0
       have z0 := Zs.i (i := 0) rfl
       have z1 := Zs.i (i := 1) rfl
       have zf0 := Zs.frz 0
       have zf1 := Zs.frz 1
       have zl := Zs.lt
       go_wp2_with fail
       have HS := Lib.hid (Zs.set [.int .i64 r1, .int .i64 r2] (by simp))
       have HK := Lib.hid (kep_setAll (b := wd.heap.size) (Nat.le_refl _) [.int .i64 r1, .int .i64 r2] 0 g6)
       simp only [setAll, Nat.zero_add] at HS HK
       go_roundw
       case rel => exact ⟨q + 1, by omega, by go_num, Lib.hid ⟨r1, r2, HRR.out.1, HRR.out.2, HS.out, HK.out⟩⟩
       case measure => simp [RowKit.intOf]; omega
      ·have q2 : (hi != x.k) = true := bne_iff_ne.2 e1
       have HRR : Hid (t1 = shfI (·.nx) L (C.take (q + 1)) x ∧ t2 = shfI (·.ny) L (C.take (q + 1)) x) := Lib.hid (by rw [HA1.out, HA2.out, if_neg HE.out, if_neg HE.out, if_neg e1, if_neg e1, Int.add_zero, Int.add_zero]; exact ⟨rfl, rfl⟩)
       clear e1 hb1 hb2 hN1 hN2 HA1 HA2
       go_quiet (fail)
       go_wp2_with fail
       go_roundw
       case rel => exact ⟨q + 1, by omega, by go_num, Lib.hid ⟨t1, t2, HRR.out.1, HRR.out.2, Zs.kep (kep_drewN (Kep.refl _ _) _), kep_drewN g6 _⟩⟩
       case measure => simp [RowKit.intOf]; omega
    ·obtain rfl : q = nc := by omega
     rw [List.take_of_length_le (by rw [HN.out]; omega)] at h1 h2
     have HE : Hid (shfB L C x = (t1, t2)) := Lib.hid (by unfold shfB; rw [h1, h2])
     have z0 := Zs.i (i := 0) rfl
     have z1 := Zs.i (i := 1) rfl
     have HO2 := Lib.hid (own_kep HO.out g6 (Nat.le_refl _))
     have gg2 := G1.out.trans (g6.mono G1.out.size)
     have hln := HLN.out k hk
     have zl := Zs.lt
     clear h1 h2 HP Zs g6
     go_wp2_with (first
      | (at_builtin; refine wpList_app shv 2 shv_len shv_one rfl _ _ 59 rfl 82 _ 16 Tryz.underlying59 info_shift rfl (by decide) w.heap.size _ _ ((L.take k).map (shfB L C)) (t1, t2) rfl HO2.out _ (by first | rfl | simp) rfl _ rfl (by rw [hln]; unfold maxLen; omega) (by rw [hln]; omega) gg2.size ?_; intro v3 w3 o3 k3))
     have HM : Hid (w3.ownsRow w.heap.size 82 2 v3 ((L.take (k + 1)).map (shfB L C)).length (((L.take (k + 1)).map (shfB L C)).flatMap shv) ∧ Kep w.heap.size w w3) := Lib.hid ⟨by rw [HTX.out, HE.out]; exact o3, gg2.trans k3⟩
     clear o3 k3 hln
     go_roundw
     case rel => exact ⟨k + 1, by omega, by go_num, HM⟩
     case measure => simp [RowKit.intOf]; omega
  ·obtain rfl : k = nl := by omega
   obtain ⟨h1, h2⟩ := HP.out
   rw [List.take_of_length_le (by rw [HNL.out]; omega)] at h1
   have H1 := Lib.hid (own_sq shv_len h1)
   clear h1 HP
   go_wp2_with fail
   go_ret
   exact ⟨_, rfl, H1.out, h2⟩
abbrev CAm (lo hi nx ny dp : Int) (x y : Bd) (t : Int) : Prop := ∀ w, Calls Tryz.prog 82 #[.agg #[.int .u32 lo, .int .u32 hi, .int .i32 nx, .int .i32 ny, .int .i32 dp], .agg #[.int .u32 x.k, .int .i32 x.r, .int .i32 x.ax, .int .i32 x.ay, .int .i32 x.m, .int .i32 x.o, .int .i32 x.px, .int .i32 x.py, .int .i32 x.vx, .int .i32 x.vy], .agg #[.int .u32 y.k, .int .i32 y.r, .int .i32 y.ax, .int .i32 y.ay, .int .i32 y.m, .int .i32 y.o, .int .i32 y.px, .int .i32 y.py, .int .i32 y.vx, .int .i32 y.vy]] w fun e w' => e = .returned (.int .i64 t) ∧ Kep w.heap.size w w'
abbrev CSh (lo hi nx ny dp : Int) (x y : Bd) (z : Bool) (t : Int) : Prop := ∀ w, Calls Tryz.prog 64 #[.agg #[.int .u32 lo, .int .u32 hi, .int .i32 nx, .int .i32 ny, .int .i32 dp], .agg #[.int .u32 x.k, .int .i32 x.r, .int .i32 x.ax, .int .i32 x.ay, .int .i32 x.m, .int .i32 x.o, .int .i32 x.px, .int .i32 x.py, .int .i32 x.vx, .int .i32 x.vy], .agg #[.int .u32 y.k, .int .i32 y.r, .int .i32 y.ax, .int .i32 y.ay, .int .i32 y.m, .int .i32 y.o, .int .i32 y.px, .int .i32 y.py, .int .i32 y.vx, .int .i32 y.vy], .bool z] w fun e w' => e = .returned (.int .i64 t) ∧ Kep w.heap.size w w'
structure SArg (L : List Bd) (C : List Ct) : Prop where
 vw : Vw L
 few : C.length ≤ 1000
 rg : ∀ c ∈ C, RsC L c
theorem SArg.vb {L : List Bd} {C : List Ct} (h : SArg L C) : ∀ x ∈ L, Vb x := fun x hx => vb_of (h.vw.ok x hx)
abbrev CSf : Prop := ∀ v L l C w, Lst w v L → Sq ctv 5 w l C → SArg L C → Calls Tryz.prog 41 #[v, l] w fun e w' => ∃ v', e = .returned v' ∧ (Sq shv 2 w' v' (shfL L C) ∧ Rmy v') ∧ Kep w.heap.size w w'
def stpG (L : List Bd) : List Bd := L.map grvB
def stpV (L : List Bd) : List Bd := (slvN (consL L) (stpG L) 4).1
def stpS (L : List Bd) : List Sh := shfL L (consL L)
def stpL (L : List Bd) : List Bd := mtL (stpV L) (stpS L)
def stpC (L : List Bd) : Bool := L.any grvC || (slvN (consL L) (stpG L) 4).2 || (mtA (stpV L) (stpS L)).any id
def frB (x : Bd) : Bd := mtB (grvB x) (0, 0)
def stpN (L : List Bd) : Nat → List Bd
 | 0 => L
 | n + 1 => stpL (stpN L n)
def ctN (L : List Bd) : Nat → Nat
 | 0 => 0
 | n + 1 => ctN L n + (consL (stpN L n)).length
def clN (L : List Bd) : Nat → Bool
 | 0 => false
 | n + 1 => clN L n || stpC (stpN L n)
theorem asc_keys : ∀ {A B : List Bd}, A.map (·.k) = B.map (·.k) → Asc A → Asc B
 | [], [], _, _ => trivial
 | [], _ :: _, e, _ => by simp at e
 | _ :: _, [], e, _ => by simp at e
 | x :: a, y :: b, e, h => by
   simp only [List.map_cons, List.cons.injEq] at e
   refine ⟨fun z hz => ?_, asc_keys e.2 h.2⟩
   have q : z.k ∈ a.map (·.k) := by rw [e.2]; exact List.mem_map.2 ⟨z, hz, rfl⟩
   obtain ⟨u, hu, e2⟩ := List.mem_map.1 q
   have := h.1 u hu
   omega
theorem vw_keys {A B : List Bd} (h : Vw A) (e : A.map (·.k) = B.map (·.k)) (ok : ∀ x ∈ B, okI x) : Vw B := by
 refine ⟨asc_keys e h.asc, ok, fun x hx => ?_, ?_⟩
 ·have q : x.k ∈ A.map (·.k) := by rw [e]; exact List.mem_map.2 ⟨x, hx, rfl⟩
  obtain ⟨u, hu, e2⟩ := List.mem_map.1 q
  have := h.key u hu
  rwa [e2] at this
 ·have := congrArg List.length e
  rw [List.length_map, List.length_map] at this
  have := h.len
  omega
theorem grvB_k (x : Bd) : (grvB x).k = x.k := by unfold grvB; split <;> rfl
theorem keysG (L : List Bd) : L.map (·.k) = (stpG L).map (·.k) := by
 unfold stpG
 rw [List.map_map]
 exact List.map_congr_left fun x _ => (grvB_k x).symm
theorem slv_keys (C : List Ct) (L : List Bd) : ∀ n, L.map (·.k) = (slvN C L n).1.map (·.k)
 | 0 => rfl
 | n + 1 => by
   rw [slv_keys C L n]
   show _ = (rndL (slvN C L n).1 C).map _
   unfold rndL
   rw [List.map_map]
   rfl
theorem slv_ok {C : List Ct} {L : List Bd} (h : ∀ x ∈ L, okI x) : ∀ n, ∀ y ∈ (slvN C L n).1, okI y
 | 0, y, hy => h y hy
 | n + 1, y, hy => by
   have hy : y ∈ rndL (slvN C L n).1 C := hy
   unfold rndL at hy
   obtain ⟨x, hx, rfl⟩ := List.mem_map.1 hy
   exact ok_vel (slv_ok h n x hx) (limJ_bd _) (limJ_bd _)
theorem vw_G {L : List Bd} (h : Vw L) : Vw (stpG L) := vw_keys h (keysG L) fun y hy => by
 unfold stpG at hy
 obtain ⟨x, hx, rfl⟩ := List.mem_map.1 hy
 exact ok_grv (h.ok x hx)
theorem vw_V {L : List Bd} (h : Vw L) : Vw (stpV L) := vw_keys (vw_G h) (slv_keys _ _ 4) (slv_ok (vw_G h).ok 4)
theorem lenV (L : List Bd) : (stpV L).length = L.length := by unfold stpV stpG; rw [slv_len, List.length_map]
theorem lenS (L : List Bd) : (stpS L).length = (stpV L).length := by rw [lenV]; unfold stpS shfL; rw [List.length_map]
theorem mtL_keys : ∀ {V : List Bd} {S : List Sh}, S.length = V.length → V.map (·.k) = (mtL V S).map (·.k)
 | [], _, _ => rfl
 | _ :: _, [], h => by simp at h
 | x :: V, s :: S, h => by
   show x.k :: V.map (·.k) = x.k :: (mtL V S).map (·.k)
   rw [mtL_keys (V := V) (S := S) (by simpa using h)]
theorem vw_stp {L : List Bd} (h : Vw L) : Vw (stpL L) := vw_keys (vw_V h) (mtL_keys (lenS L)) fun y hy => by
 obtain ⟨x, s, hx, _, rfl⟩ := mtL_mem hy
 exact ok_mv s ((vw_V h).ok x hx)
theorem vw_N {L : List Bd} (h : Vw L) : ∀ n, Vw (stpN L n)
 | 0 => h
 | n + 1 => vw_stp (vw_N h n)
theorem con_nr {x y : Bd} (hx : okC x) (hy : okC y) : Nr (conC x y).nx ∧ Nr (conC x y).ny := by
 have hr := cln_is hx hy
 unfold conC ux uy
 dsimp only
 by_cases c : cln x y = 0
 ·rw [if_pos c, if_pos c]
  exact ⟨⟨by decide, by decide⟩, by decide, by decide⟩
 ·rw [if_neg c, if_neg c]
  have p := cln_bd hx hy
  obtain ⟨b1, b2⟩ := root_ge hr
  exact ⟨un_in (by omega) b1.1 b1.2, un_in (by omega) b2.1 b2.2⟩
theorem rsc_cons {L : List Bd} (h : Vw L) : ∀ c ∈ consL L, RsC L c := fun c hc => by
 obtain ⟨x, hx, y, hy, hk, ht, rfl⟩ := (cons_mem h.asc c).1 hc
 have ox : okC x := h.ok x hx
 have oy : okC y := h.ok y hy
 have lx := look_mem h.asc.once hx
 have ly := look_mem h.asc.once hy
 have n := con_nr ox oy
 have t := (tch_iff ox oy).1 ht
 have s := csm_bd ox oy
 have l := cln_bd ox oy
 exact ⟨⟨hk, by rw [show (conC x y).lo = x.k from rfl, lx]; rfl, by rw [show (conC x y).hi = y.k from rfl, ly]; rfl, n.1, n.2⟩, by show 1 ≤ csm x y - cln x y; omega, by show csm x y - cln x y ≤ 16777216; omega⟩
theorem few_cons {L : List Bd} (h : Vw L) : (consL L).length ≤ 1000 := Nat.le_trans (cons_max h.len) (by decide)
theorem rgc_map {g : Bd → Bd} (hg : ∀ x, (g x).k = x.k) {L : List Bd} {c : Ct} (h : RgC L c) : RgC (L.map g) c :=
 ⟨h.lt, by rw [look_map hg, Option.isSome_map]; exact h.lo, by rw [look_map hg, Option.isSome_map]; exact h.hi, h.nx, h.ny⟩
theorem jarg_stp {L : List Bd} (h : Vw L) : JArg (stpG L) (consL L) := ⟨vw_G h, few_cons h, fun c hc => rgc_map grvB_k (rsc_cons h c hc).toRgC⟩
theorem sin_stp {L : List Bd} (h : Vw L) : ∀ s ∈ stpS L, Sin s := fun s hs => by
 unfold stpS shfL at hs
 obtain ⟨x, hx, rfl⟩ := List.mem_map.1 hs
 have hA : ∀ x ∈ L, look L x.k = some x := fun x hx => look_mem h.asc.once hx
 have hv : ∀ x ∈ L, Vb x := fun x hx => vb_of (h.ok x hx)
 have b1 := shf_bd (f := (·.nx)) hA hv hx (rsc_cons h) (fun c hc => (rsc_cons h c hc).nx) (few_cons h)
 have b2 := shf_bd (f := (·.ny)) hA hv hx (rsc_cons h) (fun c hc => (rsc_cons h c hc).ny) (few_cons h)
 unfold shfB
 exact ⟨⟨by dsimp only; omega, by dsimp only; omega⟩, by dsimp only; omega, by dsimp only; omega⟩
abbrev TSt : Prop := ∀ v L w, Fac w → Lst w v L → Vw L → Calls Tryz.prog 10 #[v] w fun e w' => ∃ v' n, e = .returned (.tuple #[v', .agg #[.int .i64 n, .int .i64 ((consL L).length : Int), .bool (stpC L)]]) ∧ (Lst w' v' (stpL L) ∧ ((consL L).length : Int) ≤ n ∧ 2 * n ≤ (L.length : Int) * ((L.length : Int) - 1) ∧ Rmy v') ∧ Kep w.heap.size w w'
abbrev TSs : Prop := ∀ v L n w, Fac w → Lst w v L → Vw L → n ≤ 1000 → Calls Tryz.prog 13 #[v, .int .i64 n] w fun e w' => ∃ v' t, e = .returned (.tuple #[v', .agg #[.int .i64 t, .int .i64 (ctN L n.toNat : Int), .bool (clN L n.toNat)]]) ∧ (Lst w' v' (stpN L n.toNat) ∧ (ctN L n.toNat : Int) ≤ t ∧ t ≤ 780 * (n.toNat : Int)) ∧ Kep w.heap.size w w'
abbrev TFr (x : Bd) : Prop := ∀ w, Calls Tryz.prog 17 #[.agg #[.int .u32 x.k, .int .i32 x.r, .int .i32 x.ax, .int .i32 x.ay, .int .i32 x.m, .int .i32 x.o, .int .i32 x.px, .int .i32 x.py, .int .i32 x.vx, .int .i32 x.vy]] w fun e w' => e = .returned (.agg #[.int .u32 (frB x).k, .int .i32 (frB x).r, .int .i32 (frB x).ax, .int .i32 (frB x).ay, .int .i32 (frB x).m, .int .i32 (frB x).o, .int .i32 (frB x).px, .int .i32 (frB x).py, .int .i32 (frB x).vx, .int .i32 (frB x).vy]) ∧ Kep w.heap.size w w'
structure TOps : Prop where
 stp : TSt
 sts : TSs
 fre : ∀ {x : Bd}, okI x → (Lit.int .u32 x.k).wf = true → TFr x
abbrev TAwake : Prop := ∀ w, Fac w → Calls Tryz.prog 9 #[] w fun e w' => e = .returned (.bool true) ∧ Kep w.heap.size w w'
theorem tests_max {n t : Int} (h0 : 0 ≤ n) (h : n ≤ 40) (k : 2 * t ≤ n * (n - 1)) : t ≤ 780 := by
 have e : n * (n - 1) ≤ 40 * 39 := by
  rcases Int.lt_or_le n 1 with q | q
  ·obtain rfl : n = 0 := by omega
   decide
  ·exact Int.mul_le_mul h (by omega) (by omega) (by omega)
 omega
abbrev RGv (L : List Bd) : Prop := ∀ v w, Lst w v L → Calls Tryz.prog 25 #[v] w fun e w' => ∃ v', e = .returned (.tuple #[v', .bool (L.any grvC)]) ∧ Lst w' v' (L.map grvB) ∧ Kep w.heap.size w w'
theorem any_takeB {t : Bd → Bool} {L : List Bd} {k : Nat} {x : Bd} (h : L[k]? = some x) : (L.take (k + 1)).any t = ((L.take k).any t || t x) := by
 rw [List.take_add_one, h]
 simp
theorem rig (L : List Bd) (hm : L.length ≤ 1000) (HV : Hid (∀ x ∈ L, Vb x)) : RGv L := fun v w h => by
 have HL := Lib.hid h
 obtain ⟨ba, ca, rfl⟩ := h.shape
 have HLA := Lib.hid (fun (k : Nat) (y : Bd) (hy : L[k]? = some y) => h.at_ hy)
 have HLN := Lib.hid (fun (k : Nat) (hk : k ≤ L.length) => (show ((L.take k).map grvB).length = k by rw [List.length_map, List.length_take]; omega))
 clear h
 generalize hnl : L.length = nl at *
 have HN := Lib.hid hnl
 clear hnl
 go_enter Tryz.func25, Tryz.ntmps25
 go_wp2_with fail
 go_loopw [4, 5, 6] (fun out cl i wr => ∃ k : Nat, k ≤ nl ∧ i = .int .i64 k ∧ (∃ z : Bool, cl = .bool z ∧ Hid ((L.take k).any grvC = z)) ∧ Hid (wr.ownsRow w.heap.size 40 10 out ((L.take k).map grvB).length (((L.take k).map grvB).flatMap vals) ∧ Kep w.heap.size w wr)) (fun _ _ i _ => nl - (RowKit.intOf i).toNat)
 case atStart => exact ⟨0, by omega, rfl, ⟨false, rfl, Lib.hid (by simp)⟩, Lib.hid ⟨World.ownsRow_nil _ _ _ _, Kep.refl _ _⟩⟩
 case round =>
  obtain ⟨k, hk, rfl, ⟨z, rfl, HZ⟩, HP⟩ := hrel
  by_cases hlt : k < nl
  ·have hb : L[k]? = some (L[k]'(by rw [HN.out]; exact hlt)) := List.getElem?_eq_getElem _
   generalize L[k]'(by rw [HN.out]; exact hlt) = x at hb
   have gg := HP.out.2
   have HO := Lib.hid HP.out.1
   obtain ⟨gl, off, rfl, qx⟩ := HLA.out k x hb
   have hv := HV.out x (List.mem_of_getElem? hb)
   have hln := HLN.out k hk
   have HTA : Hid ((L.take (k + 1)).map grvB = (L.take k).map grvB ++ [grvB x]) := Lib.hid (by rw [List.take_add_one, hb, List.map_append]; rfl)
   have HTB0 : Hid ((L.take (k + 1)).any grvC = (z || grvC x)) := Lib.hid (by rw [any_takeB hb, HZ.out])
   have s0 : wr.cell? ⟨gl, off + k * 10, none⟩ = some (.int .u32 x.k) := gg.all (qx 0 (by decide))
   have s1 : wr.cell? ⟨gl, off + k * 10 + 1, none⟩ = some (.int .i32 x.r) := gg.all (qx 1 (by decide))
   have s2 : wr.cell? ⟨gl, off + k * 10 + 2, none⟩ = some (.int .i32 x.ax) := gg.all (qx 2 (by decide))
   have s3 : wr.cell? ⟨gl, off + k * 10 + 3, none⟩ = some (.int .i32 x.ay) := gg.all (qx 3 (by decide))
   have s4 : wr.cell? ⟨gl, off + k * 10 + 4, none⟩ = some (.int .i32 x.m) := gg.all (qx 4 (by decide))
   have s5 : wr.cell? ⟨gl, off + k * 10 + 5, none⟩ = some (.int .i32 x.o) := gg.all (qx 5 (by decide))
   have s6 : wr.cell? ⟨gl, off + k * 10 + 6, none⟩ = some (.int .i32 x.px) := gg.all (qx 6 (by decide))
   have s7 : wr.cell? ⟨gl, off + k * 10 + 7, none⟩ = some (.int .i32 x.py) := gg.all (qx 7 (by decide))
   have s8 : wr.cell? ⟨gl, off + k * 10 + 8, none⟩ = some (.int .i32 x.vx) := gg.all (qx 8 (by decide))
   have s9 : wr.cell? ⟨gl, off + k * 10 + 9, none⟩ = some (.int .i32 x.vy) := gg.all (qx 9 (by decide))
   by_cases hm0 : 0 < x.m
   ·have d0 : decide (0 < x.m) = true := decide_eq_true hm0
    obtain ⟨ey, hey⟩ : ∃ t, t = grvY x := ⟨_, rfl⟩
    obtain ⟨ly, hly⟩ : ∃ t, t = limJ ey := ⟨_, rfl⟩
    have bl := limJ_bd ey
    have be := grvY_bd hv
    rw [← hly] at bl
    rw [← hey] at be
    have v2 := hv.vy0
    have v3 := hv.vy1
    have LY := Lib.hid (fun w => (show Calls Tryz.prog 43 #[.int .i64 ey, .int .i64 16777216] w fun e w' => e = .returned (.int .i64 ly) ∧ w = w' by rw [hly]; exact reflim_any ey 16777216 (by unfold I64; omega) (by decide) (by decide) w))
    have f1 : IntKind.i64.wrap x.vy = x.vy := by rw [IntKind.wrap_i64]; omega
    have f2 : IntKind.i64.wrap (x.vy - 1024) = ey := by rw [IntKind.wrap_i64, hey]; unfold grvY; omega
    have f3 : wrap64 (x.vy - 1024) = ey := by rw [hey]; unfold grvY wrap64; omega
    have f5 : IntKind.i32.wrap ly = ly := by rw [IntKind.wrap_i32]; omega
    have f7 : IntKind.i64.wrap ly = ly := by rw [IntKind.wrap_i64]; omega
    have f9 : wrap32 ly = ly := by unfold wrap32; omega
    have HTB : Hid ((L.take (k + 1)).map grvB = (L.take k).map grvB ++ [velB x x.vx ly]) := Lib.hid (by rw [HTA.out, hly, hey]; unfold grvB; rw [if_pos hm0])
    obtain ⟨zy, hzy⟩ : ∃ z, (ly != ey) = z := ⟨_, rfl⟩
    have HTZ : Hid ((L.take (k + 1)).any grvC = (z || zy)) := Lib.hid (by
     rw [HTB0.out]
     congr 1
     unfold grvC
     rw [← hey, ← hly, d0, Bool.true_and, ← hzy, Bool.eq_iff_iff, decide_eq_true_iff, bne_iff_ne])
    clear hb hey hly bl be v2 v3 hv qx HP hm0 HTA HTB0
    go_upto_region 10 with ((with_reducible refine (LY.out _).mono ?_); rintro e w9 ⟨rfl, rfl⟩)
    cases z with
    | true =>
      go_wp2_with (first
       | (at_builtin; refine wpList_app vals 10 vals_lenK vals_oneK rfl _ _ 22 rfl 40 _ 40 Tryz.underlying22 info_body rfl (by decide) w.heap.size _ _ ((L.take k).map grvB) (velB x x.vx ly) rfl (World.ownsRow.alloc HO.out _) _ (by first | rfl | simp) rfl _ rfl (by rw [hln]; unfold maxLen; omega) (by rw [hln]; omega) (kep_more gg _).size ?_; intro v3 w3 o3 k3))
      have HM : Hid (w3.ownsRow w.heap.size 40 10 v3 ((L.take (k + 1)).map grvB).length (((L.take (k + 1)).map grvB).flatMap vals) ∧ Kep w.heap.size w w3) := Lib.hid ⟨by rw [HTB.out]; exact o3, (kep_more gg _).trans k3⟩
      clear o3 k3 hln
      go_roundw
      case rel => exact ⟨k + 1, by omega, by go_num, ⟨true, rfl, Lib.hid (by rw [HTZ.out]; simp)⟩, HM⟩
      case measure => simp [RowKit.intOf]; omega
    | false =>
      go_wp2_with (first
       | (at_builtin; refine wpList_app vals 10 vals_lenK vals_oneK rfl _ _ 22 rfl 40 _ 40 Tryz.underlying22 info_body rfl (by decide) w.heap.size _ _ ((L.take k).map grvB) (velB x x.vx ly) rfl (World.ownsRow.alloc HO.out _) _ (by first | rfl | simp) rfl _ rfl (by rw [hln]; unfold maxLen; omega) (by rw [hln]; omega) (kep_more gg _).size ?_; intro v3 w3 o3 k3))
      have HM : Hid (w3.ownsRow w.heap.size 40 10 v3 ((L.take (k + 1)).map grvB).length (((L.take (k + 1)).map grvB).flatMap vals) ∧ Kep w.heap.size w w3) := Lib.hid ⟨by rw [HTB.out]; exact o3, (kep_more gg _).trans k3⟩
      clear o3 k3 hln
      go_roundw
      case rel => exact ⟨k + 1, by omega, by go_num, ⟨zy, rfl, Lib.hid (by rw [HTZ.out]; simp)⟩, HM⟩
      case measure => simp [RowKit.intOf]; omega
   ·have d0 : decide (0 < x.m) = false := decide_eq_false hm0
    have HTB : Hid ((L.take (k + 1)).map grvB = (L.take k).map grvB ++ [x]) := Lib.hid (by rw [HTA.out]; unfold grvB; rw [if_neg hm0])
    have HTZ : Hid ((L.take (k + 1)).any grvC = z) := Lib.hid (by
     rw [HTB0.out]
     unfold grvC
     rw [d0, Bool.false_and, Bool.or_false])
    clear hb hv qx HP hm0 HTA HTB0
    go_wp2_with (first
     | (at_builtin; refine wpList_app vals 10 vals_lenK vals_oneK rfl _ _ 22 rfl 40 _ 40 Tryz.underlying22 info_body rfl (by decide) w.heap.size _ _ ((L.take k).map grvB) x rfl (World.ownsRow.alloc HO.out _) _ (by first | rfl | simp) rfl _ rfl (by rw [hln]; unfold maxLen; omega) (by rw [hln]; omega) (kep_more gg _).size ?_; intro v3 w3 o3 k3))
    have HM : Hid (w3.ownsRow w.heap.size 40 10 v3 ((L.take (k + 1)).map grvB).length (((L.take (k + 1)).map grvB).flatMap vals) ∧ Kep w.heap.size w w3) := Lib.hid ⟨by rw [HTB.out]; exact o3, (kep_more gg _).trans k3⟩
    clear o3 k3 hln
    go_roundw
    case rel => exact ⟨k + 1, by omega, by go_num, ⟨z, rfl, HTZ⟩, HM⟩
    case measure => simp [RowKit.intOf]; omega
  ·obtain rfl : k = nl := by omega
   obtain ⟨h1, h2⟩ := HP.out
   have et : L.take k = L := List.take_of_length_le (by rw [HN.out]; omega)
   rw [et] at h1 HZ
   have H1 := Lib.hid (own_lst h1)
   have HC9 : Hid (z = L.any grvC) := Lib.hid HZ.out.symm
   clear h1 HP et HZ
   go_wp2_with fail
   go_ret2
   exact ⟨_, by rw [← HC9.out]; rfl, H1.out, h2⟩
end Go.Proofs.YtaknmlohnifcdaaGreatDoor
