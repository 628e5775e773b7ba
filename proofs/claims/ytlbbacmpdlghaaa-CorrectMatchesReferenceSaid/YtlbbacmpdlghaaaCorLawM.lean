/-
  Package correct: the law CorrectMatchesReference.
-/
import Derived.Test.YtlbbacmpdlghaaaCorShift
import Derived.Deep.DeepCutAuto
import Derived.Deep.QuietTactic
import Derived.BigQuiet
namespace Go.Proofs.Ytlbbacmpdlghaaa
open Go.RowKit Go.Lib

set_option maxRecDepth 100000 in
set_option maxHeartbeats 2000000 in
theorem cml8_bad (AW : Hid SAwake)  (L : List Bd) (v : Value) (w : World) (hq : Lst w v L) (C : List Ct) (l : Value) (hc : Sq ctv 5 w l C) (hvw : viwB L = false) : Calls Try.prog 3 #[v, l] w fun e w' => e = .returned (.bool true) ∧ Kep w.heap.size w w' := by
  obtain ⟨base, cap, rfl⟩ := hq.shape
  have HQ := Lib.hid hq
  have HC := Lib.hid hc
  clear hq hc
  have VW : Hid (∀ v w, Lst w v L → Calls Try.prog 8 #[v] w fun e w' => ∃ v', e = .returned (.tuple #[v', .bool false]) ∧ Lst w' v' (if L.length ≤ 40 then sortL L else []) ∧ Kep w.heap.size w w') := Lib.hid (fun v w h => (rvw L v w h).mono fun e w' ⟨v', h1, h2, h3⟩ => ⟨v', by rw [h1]; rw [hvw], h2.1, h3⟩)
  clear HC
  go_enter Try.func3, Try.ntmps3
  go_wp2_with (first
    | ((with_reducible refine (VW.out _ _ (HQ.out.kep (Kep.refl _ _))).mono ?_); rintro e w1 ⟨v1, rfl, l1, g1⟩
       have gg := kep_next (Kep.refl _ _) g1)
    | ((with_reducible refine (AW.out _).mono ?_); rintro e w2 ⟨rfl, g2⟩
       replace gg := kep_next gg g2
       replace l1 := l1.kep g2))
  go_ret
  exact ⟨rfl, gg⟩
set_option maxRecDepth 100000 in
set_option maxHeartbeats 2000000 in
theorem cml8_not (AW : Hid SAwake)  (L : List Bd) (v : Value) (w : World) (hq : Lst w v L) (C : List Ct) (l : Value) (hc : Sq ctv 5 w l C) (HF : Hid (∀ x ∈ L, Fits x)) (hvw : viwB L = true) (hr : rgtS (sortL L) C = false) : Calls Try.prog 3 #[v, l] w fun e w' => e = .returned (.bool true) ∧ Kep w.heap.size w w' := by
  obtain ⟨base, cap, rfl⟩ := hq.shape
  have HQ := Lib.hid hq
  have HC := Lib.hid hc
  clear hq hc
  have VW : Hid (∀ v w, Lst w v L → Calls Try.prog 8 #[v] w fun e w' => ∃ v', e = .returned (.tuple #[v', .bool true]) ∧ Lst w' v' (sortL L) ∧ Kep w.heap.size w w') := Lib.hid (fun v w h => (rvw L v w h).mono fun e w' ⟨v', h1, h2, h3⟩ => ⟨v', by rw [h1]; rw [hvw], by have := h2.1; rw [if_pos (vw_of hvw HF.out).1] at this; exact this, h3⟩)
  have HVW := Lib.hid (vw_of hvw HF.out).2.2
  obtain ⟨A, hA⟩ : ∃ A, A = sortL L := ⟨_, rfl⟩
  rw [← hA] at VW HVW hr
  clear hA
  have RR := Lib.hid (show RRs A C false by rw [← hr]; exact rrs A (by have := HVW.out.len; omega) C)
  go_enter Try.func3, Try.ntmps3
  go_wp2_with (first
    | ((with_reducible refine (VW.out _ _ (HQ.out.kep (Kep.refl _ _))).mono ?_); rintro e w1 ⟨v1, rfl, l1, g1⟩
       have gg := kep_next (Kep.refl _ _) g1)
    | ((with_reducible refine (AW.out _).mono ?_); rintro e w2 ⟨rfl, g2⟩
       replace gg := kep_next gg g2
       replace l1 := l1.kep g2)
    | ((with_reducible refine (RR.out _ _ _ l1 (HC.out.kep gg)).mono ?_); rintro e w3 ⟨rfl, g3⟩
       replace gg := kep_next gg g3
       replace l1 := l1.kep g3))
  go_ret
  exact ⟨rfl, gg⟩
set_option maxRecDepth 100000 in
set_option maxHeartbeats 8000000 in
theorem cml8_ok (O : SOps) (AW : Hid SAwake)  (L : List Bd) (v : Value) (w : World) (hq : Lst w v L) (C : List Ct) (l : Value) (hc : Sq ctv 5 w l C) (HF : Hid (∀ x ∈ L, Fits x)) (hvw : viwB L = true) (hr : rgtS (sortL L) C = true) : Calls Try.prog 3 #[v, l] w fun e w' => e = .returned (.bool true) ∧ Kep w.heap.size w w' := by
  obtain ⟨base, cap, rfl⟩ := hq.shape
  have HQ := Lib.hid hq
  have HC := Lib.hid hc
  clear hq hc
  have VW : Hid (∀ v w, Lst w v L → Calls Try.prog 8 #[v] w fun e w' => ∃ v', e = .returned (.tuple #[v', .bool true]) ∧ Lst w' v' (sortL L) ∧ Kep w.heap.size w w') := Lib.hid (fun v w h => (rvw L v w h).mono fun e w' ⟨v', h1, h2, h3⟩ => ⟨v', by rw [h1]; rw [hvw], by have := h2.1; rw [if_pos (vw_of hvw HF.out).1] at this; exact this, h3⟩)
  have HVW := Lib.hid (vw_of hvw HF.out).2.2
  obtain ⟨A, hA⟩ : ∃ A, A = sortL L := ⟨_, rfl⟩
  rw [← hA] at VW HVW hr
  clear hA
  have RR := Lib.hid (show RRs A C true by rw [← hr]; exact rrs A (by have := HVW.out.len; omega) C)
  have HJ := Lib.hid (sarg HVW.out hr)
  clear hr
  have hal := HVW.out.len
  have RS := Lib.hid (rsf A (by omega) (Lib.hid HJ.out.vb) (Lib.hid HVW.out.asc) C HJ.out.few (Lib.hid HJ.out.rg))
  have PS := Lib.hid (fun v w h k => O.shf v A l C w h k HJ.out)
  have hl3 : (shfL A C).length ≤ 1000000000 := by unfold shfL; rw [List.length_map]; omega
  have hl4 : (shfL A C).length ≤ 100000 := by unfold shfL; rw [List.length_map]; omega
  have TS := Lib.hid (fun v w h => lsh (shfL A C) hl4 v w h)
  have RM := Lib.hid (fun va vb w h1 h2 => rsm (shfL A C) hl3 va vb w h1 h2)
  obtain ⟨bc, cc, rfl, hcc⟩ := HC.out
  have HCE := Lib.hid hcc
  have hfew := HJ.out.few
  clear hcc hl3 hl4
  generalize hnc : C.length = nc at *
  have HN := Lib.hid hnc
  clear hnc
  go_enter Try.func3, Try.ntmps3
  go_wp2_with (first
    | ((with_reducible refine (VW.out _ _ (HQ.out.kep (Kep.refl _ _))).mono ?_); rintro e w1 ⟨v1, rfl, l1, g1⟩
       have gg := kep_next (Kep.refl _ _) g1)
    | ((with_reducible refine (AW.out _).mono ?_); rintro e w2 ⟨rfl, g2⟩
       replace gg := kep_next gg g2
       replace l1 := l1.kep g2)
    | ((with_reducible refine (RR.out _ _ _ l1 (HC.out.kep gg)).mono ?_); rintro e w3 ⟨rfl, g3⟩
       replace gg := kep_next gg g3
       replace l1 := l1.kep g3))
  have HL := Lib.hid l1
  obtain ⟨b1, c1, rfl⟩ := l1.shape
  have HFD := Lib.hid (fun key w h => find_any (.slice b1 A.length c1) A key w h (by omega))
  have HLA := Lib.hid (fun (k : Nat) (y : Bd) (hy : A[k]? = some y) => l1.at_ hy)
  have G0 := Lib.hid gg
  generalize hna : A.length = na at *
  have HNA := Lib.hid hna
  clear gg l1 hna
  go_loopw [7] (fun i wr => ∃ k : Nat, k ≤ nc ∧ i = .int .i64 k ∧ Hid (Kep w3.heap.size w3 wr)) (fun i _ => nc - (RowKit.intOf i).toNat)
  case atStart => exact ⟨0, by omega, rfl, Lib.hid (Kep.refl _ _)⟩
  case round =>
    obtain ⟨k, hk, rfl, HP⟩ := hrel
    have gi := HP.out
    by_cases hlt : k < nc
    · have hb : C[k]? = some (C[k]'(by rw [HN.out]; exact hlt)) := List.getElem?_eq_getElem _
      generalize C[k]'(by rw [HN.out]; exact hlt) = c at hb
      obtain ⟨gc, oc, rfl, q⟩ := HCE.out k c hb
      have hrc := HJ.out.rg c (List.mem_of_getElem? hb)
      obtain ⟨a, ha⟩ := Option.isSome_iff_exists.1 hrc.lo
      obtain ⟨b, hbb⟩ := Option.isSome_iff_exists.1 hrc.hi
      obtain ⟨ja, hja, hga⟩ := (place_eq A c.lo 0).2 a ha
      obtain ⟨jb, hjb, hgb⟩ := (place_eq A c.hi 0).2 b hbb
      rw [Nat.zero_add] at hja hjb
      have hjal : ja < na := by have := (List.getElem?_eq_some_iff.1 hga).1; rw [HNA.out] at this; exact this
      have hjbl : jb < na := by have := (List.getElem?_eq_some_iff.1 hgb).1; rw [HNA.out] at this; exact this
      obtain ⟨gl, off, rfl, qa⟩ := HLA.out ja a hga
      obtain ⟨_, _, e0, qb⟩ := HLA.out jb b hgb
      injection e0 with e0
      injection e0 with e1 e2
      subst e1 e2
      have FA := Lib.hid (fun w h => (show Calls Try.prog 11 #[.slice (some ⟨gl, off, none⟩) na c1, .int .u32 c.lo] w fun e w' => e = .returned (.int .i64 (ja : Int)) ∧ w = w' by rw [← hja]; exact HFD.out c.lo w h))
      have FB := Lib.hid (fun w h => (show Calls Try.prog 11 #[.slice (some ⟨gl, off, none⟩) na c1, .int .u32 c.hi] w fun e w' => e = .returned (.int .i64 (jb : Int)) ∧ w = w' by rw [← hjb]; exact HFD.out c.hi w h))
      have va := HJ.out.vb a (look_some ha).1
      have vb := HJ.out.vb b (look_some hbb).1
      obtain ⟨n, hn⟩ : ∃ n, n = amI c.dp a b := ⟨_, rfl⟩
      obtain ⟨p, hp⟩ : ∃ n, n = shI c.dp a b a.m := ⟨_, rfl⟩
      obtain ⟨r, hr⟩ : ∃ n, n = shI c.dp a b b.m := ⟨_, rfl⟩
      have D1 : Hid (CAm c.lo c.hi c.nx c.ny c.dp a b n) := Lib.hid (by rw [hn]; exact O.amt va vb hrc.dp)
      have D2 : Hid (CSh c.lo c.hi c.nx c.ny c.dp a b false p) := Lib.hid (by rw [hp]; have := O.shr (lo := c.lo) (hi := c.hi) (nx := c.nx) (ny := c.ny) false va vb hrc.dp; rw [if_neg (by simp)] at this; exact this)
      have D3 : Hid (CSh c.lo c.hi c.nx c.ny c.dp a b true r) := Lib.hid (by rw [hr]; have := O.shr (lo := c.lo) (hi := c.hi) (nx := c.nx) (ny := c.ny) true va vb hrc.dp; rw [if_pos rfl] at this; exact this)
      have E1 := Lib.hid (ram (lo := c.lo) (hi := c.hi) (nx := c.nx) (ny := c.ny) (t := n) va vb hrc.dp hn.symm)
      have E2 := Lib.hid (rsh (lo := c.lo) (hi := c.hi) (nx := c.nx) (ny := c.ny) (t := p) va vb hrc.dp ⟨va.m0, va.m1⟩ hp.symm)
      have E3 := Lib.hid (rsh (lo := c.lo) (hi := c.hi) (nx := c.nx) (ny := c.ny) (t := r) va vb hrc.dp ⟨vb.m0, vb.m1⟩ hr.symm)
      have x1 : (n != n) = false := by simp
      have x2 : (p != p) = false := by simp
      have x3 : (r != r) = false := by simp
      have gw := kep_next G0.out gi
      have s0 : wr.cell? ⟨gc, oc + k * 5, none⟩ = some (.int .u32 c.lo) := gw.all (q 0 _ rfl)
      have s1 : wr.cell? ⟨gc, oc + k * 5 + 1, none⟩ = some (.int .u32 c.hi) := gw.all (q 1 _ rfl)
      have s2 : wr.cell? ⟨gc, oc + k * 5 + 2, none⟩ = some (.int .i32 c.nx) := gw.all (q 2 _ rfl)
      have s3 : wr.cell? ⟨gc, oc + k * 5 + 3, none⟩ = some (.int .i32 c.ny) := gw.all (q 3 _ rfl)
      have s4 : wr.cell? ⟨gc, oc + k * 5 + 4, none⟩ = some (.int .i32 c.dp) := gw.all (q 4 _ rfl)
      have LD := Lib.hid (HL.out.kep gi)
      have hgc0 : gc < wr.heap.size := World.block_lt_of_cell? _ _ s0
      have hgl0 : gl < wr.heap.size := World.block_lt_of_cell? _ _ (gi.all (qa 0 (by decide)))
      have a0 : wr.cell? ⟨gl, off + ja * 10, none⟩ = some (.int .u32 a.k) := gi.all (qa 0 (by decide))
      have a1 : wr.cell? ⟨gl, off + ja * 10 + 1, none⟩ = some (.int .i32 a.r) := gi.all (qa 1 (by decide))
      have a2 : wr.cell? ⟨gl, off + ja * 10 + 2, none⟩ = some (.int .i32 a.ax) := gi.all (qa 2 (by decide))
      have a3 : wr.cell? ⟨gl, off + ja * 10 + 3, none⟩ = some (.int .i32 a.ay) := gi.all (qa 3 (by decide))
      have a4 : wr.cell? ⟨gl, off + ja * 10 + 4, none⟩ = some (.int .i32 a.m) := gi.all (qa 4 (by decide))
      have a5 : wr.cell? ⟨gl, off + ja * 10 + 5, none⟩ = some (.int .i32 a.o) := gi.all (qa 5 (by decide))
      have a6 : wr.cell? ⟨gl, off + ja * 10 + 6, none⟩ = some (.int .i32 a.px) := gi.all (qa 6 (by decide))
      have a7 : wr.cell? ⟨gl, off + ja * 10 + 7, none⟩ = some (.int .i32 a.py) := gi.all (qa 7 (by decide))
      have a8 : wr.cell? ⟨gl, off + ja * 10 + 8, none⟩ = some (.int .i32 a.vx) := gi.all (qa 8 (by decide))
      have a9 : wr.cell? ⟨gl, off + ja * 10 + 9, none⟩ = some (.int .i32 a.vy) := gi.all (qa 9 (by decide))
      have b0 : wr.cell? ⟨gl, off + jb * 10, none⟩ = some (.int .u32 b.k) := gi.all (qb 0 (by decide))
      have b1 : wr.cell? ⟨gl, off + jb * 10 + 1, none⟩ = some (.int .i32 b.r) := gi.all (qb 1 (by decide))
      have b2 : wr.cell? ⟨gl, off + jb * 10 + 2, none⟩ = some (.int .i32 b.ax) := gi.all (qb 2 (by decide))
      have b3 : wr.cell? ⟨gl, off + jb * 10 + 3, none⟩ = some (.int .i32 b.ay) := gi.all (qb 3 (by decide))
      have b4 : wr.cell? ⟨gl, off + jb * 10 + 4, none⟩ = some (.int .i32 b.m) := gi.all (qb 4 (by decide))
      have b5 : wr.cell? ⟨gl, off + jb * 10 + 5, none⟩ = some (.int .i32 b.o) := gi.all (qb 5 (by decide))
      have b6 : wr.cell? ⟨gl, off + jb * 10 + 6, none⟩ = some (.int .i32 b.px) := gi.all (qb 6 (by decide))
      have b7 : wr.cell? ⟨gl, off + jb * 10 + 7, none⟩ = some (.int .i32 b.py) := gi.all (qb 7 (by decide))
      have b8 : wr.cell? ⟨gl, off + jb * 10 + 8, none⟩ = some (.int .i32 b.vx) := gi.all (qb 8 (by decide))
      have b9 : wr.cell? ⟨gl, off + jb * 10 + 9, none⟩ = some (.int .i32 b.vy) := gi.all (qb 9 (by decide))
      have gz := gi.size
      clear hb hrc ha hbb hja hjb hga hgb qa qb q hn hp hr va vb HP gw
      have i1 : (0 : Int) ≤ (ja : Int) := by omega
      have i2 : (ja : Int) < (na : Int) := by omega
      have i3 : (0 : Int) ≤ (jb : Int) := by omega
      have i4 : (jb : Int) < (na : Int) := by omega
      go_upto_region 9 with (first
        | ((with_reducible refine (FA.out _ LD.out).mono ?_); rintro e w4 ⟨rfl, rfl⟩)
        | ((with_reducible refine (FB.out _ (LD.out.kep (kep_more (Kep.refl _ _) _))).mono ?_); rintro e w4 ⟨rfl, rfl⟩))
      generalize hW : World.alloc (World.alloc wr _) _ = W5
      have k5 : Kep wr.heap.size wr W5 := by rw [← hW]; exact kep_more (kep_more (Kep.refl _ _) _) _
      have x0 : W5.cell? ⟨wr.heap.size, 0, none⟩ = some (.int .u32 a.k) := by rw [← hW, World.cell?_alloc_past _ _ _ (by simp), World.cell?_alloc_at _ _ _ _ (by simp)]; rfl
      have x1 : W5.cell? ⟨wr.heap.size, 1, none⟩ = some (.int .i32 a.r) := by rw [← hW, World.cell?_alloc_past _ _ _ (by simp), World.cell?_alloc_at _ _ _ _ (by simp)]; rfl
      have x2 : W5.cell? ⟨wr.heap.size, 2, none⟩ = some (.int .i32 a.ax) := by rw [← hW, World.cell?_alloc_past _ _ _ (by simp), World.cell?_alloc_at _ _ _ _ (by simp)]; rfl
      have x3 : W5.cell? ⟨wr.heap.size, 3, none⟩ = some (.int .i32 a.ay) := by rw [← hW, World.cell?_alloc_past _ _ _ (by simp), World.cell?_alloc_at _ _ _ _ (by simp)]; rfl
      have x4 : W5.cell? ⟨wr.heap.size, 4, none⟩ = some (.int .i32 a.m) := by rw [← hW, World.cell?_alloc_past _ _ _ (by simp), World.cell?_alloc_at _ _ _ _ (by simp)]; rfl
      have x5 : W5.cell? ⟨wr.heap.size, 5, none⟩ = some (.int .i32 a.o) := by rw [← hW, World.cell?_alloc_past _ _ _ (by simp), World.cell?_alloc_at _ _ _ _ (by simp)]; rfl
      have x6 : W5.cell? ⟨wr.heap.size, 6, none⟩ = some (.int .i32 a.px) := by rw [← hW, World.cell?_alloc_past _ _ _ (by simp), World.cell?_alloc_at _ _ _ _ (by simp)]; rfl
      have x7 : W5.cell? ⟨wr.heap.size, 7, none⟩ = some (.int .i32 a.py) := by rw [← hW, World.cell?_alloc_past _ _ _ (by simp), World.cell?_alloc_at _ _ _ _ (by simp)]; rfl
      have x8 : W5.cell? ⟨wr.heap.size, 8, none⟩ = some (.int .i32 a.vx) := by rw [← hW, World.cell?_alloc_past _ _ _ (by simp), World.cell?_alloc_at _ _ _ _ (by simp)]; rfl
      have x9 : W5.cell? ⟨wr.heap.size, 9, none⟩ = some (.int .i32 a.vy) := by rw [← hW, World.cell?_alloc_past _ _ _ (by simp), World.cell?_alloc_at _ _ _ _ (by simp)]; rfl
      have y0 : W5.cell? ⟨wr.heap.size + 1, 0, none⟩ = some (.int .u32 b.k) := by rw [← hW, World.cell?_alloc_at _ _ _ _ (by simp)]; rfl
      have y1 : W5.cell? ⟨wr.heap.size + 1, 1, none⟩ = some (.int .i32 b.r) := by rw [← hW, World.cell?_alloc_at _ _ _ _ (by simp)]; rfl
      have y2 : W5.cell? ⟨wr.heap.size + 1, 2, none⟩ = some (.int .i32 b.ax) := by rw [← hW, World.cell?_alloc_at _ _ _ _ (by simp)]; rfl
      have y3 : W5.cell? ⟨wr.heap.size + 1, 3, none⟩ = some (.int .i32 b.ay) := by rw [← hW, World.cell?_alloc_at _ _ _ _ (by simp)]; rfl
      have y4 : W5.cell? ⟨wr.heap.size + 1, 4, none⟩ = some (.int .i32 b.m) := by rw [← hW, World.cell?_alloc_at _ _ _ _ (by simp)]; rfl
      have y5 : W5.cell? ⟨wr.heap.size + 1, 5, none⟩ = some (.int .i32 b.o) := by rw [← hW, World.cell?_alloc_at _ _ _ _ (by simp)]; rfl
      have y6 : W5.cell? ⟨wr.heap.size + 1, 6, none⟩ = some (.int .i32 b.px) := by rw [← hW, World.cell?_alloc_at _ _ _ _ (by simp)]; rfl
      have y7 : W5.cell? ⟨wr.heap.size + 1, 7, none⟩ = some (.int .i32 b.py) := by rw [← hW, World.cell?_alloc_at _ _ _ _ (by simp)]; rfl
      have y8 : W5.cell? ⟨wr.heap.size + 1, 8, none⟩ = some (.int .i32 b.vx) := by rw [← hW, World.cell?_alloc_at _ _ _ _ (by simp)]; rfl
      have y9 : W5.cell? ⟨wr.heap.size + 1, 9, none⟩ = some (.int .i32 b.vy) := by rw [← hW, World.cell?_alloc_at _ _ _ _ (by simp)]; rfl
      clear hW a0 a1 a2 a3 a4 a5 a6 a7 a8 a9 b0 b1 b2 b3 b4 b5 b6 b7 b8 b9
      replace s0 := k5.all s0
      replace s1 := k5.all s1
      replace s2 := k5.all s2
      replace s3 := k5.all s3
      replace s4 := k5.all s4
      replace gi := gi.trans (k5.mono gz)
      replace gz := Nat.le_trans gz k5.size
      have gg : Kep W5.heap.size W5 W5 := Kep.refl _ _
      clear k5 LD FA FB hgl0 hgc0
      generalize wr.heap.size = ab at *
      refine wp_region_noPanic ?_
      refine wp_region_held_drew (S := (fun w' => w'.cell? ⟨gc, oc + k * 5, none⟩ = some (.int .u32 c.lo) ∧ w'.cell? ⟨gc, oc + k * 5 + 1, none⟩ = some (.int .u32 c.hi) ∧ w'.cell? ⟨gc, oc + k * 5 + 2, none⟩ = some (.int .i32 c.nx) ∧ w'.cell? ⟨gc, oc + k * 5 + 3, none⟩ = some (.int .i32 c.ny) ∧ w'.cell? ⟨gc, oc + k * 5 + 4, none⟩ = some (.int .i32 c.dp) ∧ w'.cell? ⟨ab, 0, none⟩ = some (.int .u32 a.k) ∧ w'.cell? ⟨ab, 1, none⟩ = some (.int .i32 a.r) ∧ w'.cell? ⟨ab, 2, none⟩ = some (.int .i32 a.ax) ∧ w'.cell? ⟨ab, 3, none⟩ = some (.int .i32 a.ay) ∧ w'.cell? ⟨ab, 4, none⟩ = some (.int .i32 a.m) ∧ w'.cell? ⟨ab, 5, none⟩ = some (.int .i32 a.o) ∧ w'.cell? ⟨ab, 6, none⟩ = some (.int .i32 a.px) ∧ w'.cell? ⟨ab, 7, none⟩ = some (.int .i32 a.py) ∧ w'.cell? ⟨ab, 8, none⟩ = some (.int .i32 a.vx) ∧ w'.cell? ⟨ab, 9, none⟩ = some (.int .i32 a.vy) ∧ w'.cell? ⟨ab + 1, 0, none⟩ = some (.int .u32 b.k) ∧ w'.cell? ⟨ab + 1, 1, none⟩ = some (.int .i32 b.r) ∧ w'.cell? ⟨ab + 1, 2, none⟩ = some (.int .i32 b.ax) ∧ w'.cell? ⟨ab + 1, 3, none⟩ = some (.int .i32 b.ay) ∧ w'.cell? ⟨ab + 1, 4, none⟩ = some (.int .i32 b.m) ∧ w'.cell? ⟨ab + 1, 5, none⟩ = some (.int .i32 b.o) ∧ w'.cell? ⟨ab + 1, 6, none⟩ = some (.int .i32 b.px) ∧ w'.cell? ⟨ab + 1, 7, none⟩ = some (.int .i32 b.py) ∧ w'.cell? ⟨ab + 1, 8, none⟩ = some (.int .i32 b.vx) ∧ w'.cell? ⟨ab + 1, 9, none⟩ = some (.int .i32 b.vy) ∧ Kep W5.heap.size W5 w')) (by kernel_rfl) (⟨by rw [World.cell?_drew]; exact s0, by rw [World.cell?_drew]; exact s1, by rw [World.cell?_drew]; exact s2, by rw [World.cell?_drew]; exact s3, by rw [World.cell?_drew]; exact s4, by rw [World.cell?_drew]; exact x0, by rw [World.cell?_drew]; exact x1, by rw [World.cell?_drew]; exact x2, by rw [World.cell?_drew]; exact x3, by rw [World.cell?_drew]; exact x4, by rw [World.cell?_drew]; exact x5, by rw [World.cell?_drew]; exact x6, by rw [World.cell?_drew]; exact x7, by rw [World.cell?_drew]; exact x8, by rw [World.cell?_drew]; exact x9, by rw [World.cell?_drew]; exact y0, by rw [World.cell?_drew]; exact y1, by rw [World.cell?_drew]; exact y2, by rw [World.cell?_drew]; exact y3, by rw [World.cell?_drew]; exact y4, by rw [World.cell?_drew]; exact y5, by rw [World.cell?_drew]; exact y6, by rw [World.cell?_drew]; exact y7, by rw [World.cell?_drew]; exact y8, by rw [World.cell?_drew]; exact y9, kep_drew gg⟩) (fun hH => ?_)
      refine rtk 0 (oi := ⟨some 56, .move (.tmp 1), _, _, _, none⟩) (v := ?_) rfl ?_ hH ?_
      rotate_left
      · (intro w hSw; (try dsimp only at hSw); go_simp; (try with_reducible rfl))
      refine rtk 1 (oi := ⟨some 57, .move (.tmp 7), _, _, _, none⟩) (v := ?_) rfl ?_ hH ?_
      rotate_left
      · (intro w hSw; (try dsimp only at hSw); go_simp; (try with_reducible rfl))
      refine rtk 2 (oi := ⟨some 58, .indexAddr 23 (.tmp 56) (.tmp 57), _, _, _, none⟩) (v := ?_) rfl ?_ hH ?_
      rotate_left
      · (intro w hSw; (try dsimp only at hSw); go_simp; (try with_reducible rfl))
      refine rtk 3 (oi := ⟨some 59, .load 37 (.tmp 58), _, _, _, none⟩) (v := ?_) rfl ?_ hH ?_
      rotate_left
      · (intro w hSw; (try dsimp only at hSw); go_simp; (try with_reducible rfl))
      try simp only [Act.put, List.setIfInBounds_toArray, List.set_cons_zero, List.set_cons_succ]
      refine rtk 4 (oi := ⟨some 60, .load 32 (.tmp 8), _, _, _, none⟩) (v := ?_) rfl ?_ hH ?_
      rotate_left
      · (intro w hSw; (try dsimp only at hSw); go_simp; (try with_reducible rfl))
      refine rtk 5 (oi := ⟨some 61, .load 32 (.tmp 9), _, _, _, none⟩) (v := ?_) rfl ?_ hH ?_
      rotate_left
      · (intro w hSw; (try dsimp only at hSw); go_simp; (try with_reducible rfl))
      refine rtk 7 (oi := ⟨some 63, .move (.tmp 1), _, _, _, none⟩) (v := ?_) rfl ?_ hH ?_
      rotate_left
      · (intro w hSw; (try dsimp only at hSw); go_simp; (try with_reducible rfl))
      refine rtk 8 (oi := ⟨some 64, .move (.tmp 7), _, _, _, none⟩) (v := ?_) rfl ?_ hH ?_
      rotate_left
      · (intro w hSw; (try dsimp only at hSw); go_simp; (try with_reducible rfl))
      try simp only [Act.put, List.setIfInBounds_toArray, List.set_cons_zero, List.set_cons_succ]
      refine rtk 9 (oi := ⟨some 65, .indexAddr 23 (.tmp 63) (.tmp 64), _, _, _, none⟩) (v := ?_) rfl ?_ hH ?_
      rotate_left
      · (intro w hSw; (try dsimp only at hSw); go_simp; (try with_reducible rfl))
      refine rtk 10 (oi := ⟨some 66, .load 37 (.tmp 65), _, _, _, none⟩) (v := ?_) rfl ?_ hH ?_
      rotate_left
      · (intro w hSw; (try dsimp only at hSw); go_simp; (try with_reducible rfl))
      refine rtk 11 (oi := ⟨some 67, .load 32 (.tmp 8), _, _, _, none⟩) (v := ?_) rfl ?_ hH ?_
      rotate_left
      · (intro w hSw; (try dsimp only at hSw); go_simp; (try with_reducible rfl))
      refine rtk 12 (oi := ⟨some 68, .load 32 (.tmp 9), _, _, _, none⟩) (v := ?_) rfl ?_ hH ?_
      rotate_left
      · (intro w hSw; (try dsimp only at hSw); go_simp; (try with_reducible rfl))
      try simp only [Act.put, List.setIfInBounds_toArray, List.set_cons_zero, List.set_cons_succ]
      refine wpAnyH_ready (rs := [6]) (by kernel_rfl) (by simp) ?_
      refine AllReadyH.cons (o := ⟨some 62, .call { callee := .value (.func 12), args := #[.tmp 59, .tmp 60, .tmp 61], argTypes := #[37, 32, 32] }, _, _, _, none⟩) rfl (fun K hK => ?_) AllReadyH.nil
      go_simp
      (with_reducible refine (D1.out _).mono ?_); rintro e v9_6 ⟨rfl, g⟩
      refine hK.out _ _ (by (try dsimp only); (go_split_ands; exact ⟨Kep.all g (by assumption), Kep.all g (by assumption), Kep.all g (by assumption), Kep.all g (by assumption), Kep.all g (by assumption), Kep.all g (by assumption), Kep.all g (by assumption), Kep.all g (by assumption), Kep.all g (by assumption), Kep.all g (by assumption), Kep.all g (by assumption), Kep.all g (by assumption), Kep.all g (by assumption), Kep.all g (by assumption), Kep.all g (by assumption), Kep.all g (by assumption), Kep.all g (by assumption), Kep.all g (by assumption), Kep.all g (by assumption), Kep.all g (by assumption), Kep.all g (by assumption), Kep.all g (by assumption), Kep.all g (by assumption), Kep.all g (by assumption), Kep.all g (by assumption), kep_next (by assumption) g⟩)) (fun hH2 => ?_)
      clear hK K hH; have hH := hH2; clear hH2
      try simp only [Act.put, List.setIfInBounds_toArray, List.set_cons_zero, List.set_cons_succ]
      refine wpAnyH_ready (rs := [13]) (by kernel_rfl) (by simp) ?_
      refine AllReadyH.cons (o := ⟨some 69, .call { callee := .value (.func 13), args := #[.tmp 66, .tmp 67, .tmp 68], argTypes := #[37, 32, 32] }, _, _, _, none⟩) rfl (fun K hK => ?_) AllReadyH.nil
      go_simp
      (with_reducible refine (E1.out _).mono ?_); rintro e v9_13 ⟨rfl, g⟩
      refine hK.out _ _ (by (try dsimp only); (go_split_ands; exact ⟨Kep.all g (by assumption), Kep.all g (by assumption), Kep.all g (by assumption), Kep.all g (by assumption), Kep.all g (by assumption), Kep.all g (by assumption), Kep.all g (by assumption), Kep.all g (by assumption), Kep.all g (by assumption), Kep.all g (by assumption), Kep.all g (by assumption), Kep.all g (by assumption), Kep.all g (by assumption), Kep.all g (by assumption), Kep.all g (by assumption), Kep.all g (by assumption), Kep.all g (by assumption), Kep.all g (by assumption), Kep.all g (by assumption), Kep.all g (by assumption), Kep.all g (by assumption), Kep.all g (by assumption), Kep.all g (by assumption), Kep.all g (by assumption), Kep.all g (by assumption), kep_next (by assumption) g⟩)) (fun hH2 => ?_)
      clear hK K hH; have hH := hH2; clear hH2
      refine rtk 14 (oi := ⟨some 70, .binOp .neq 2 (.tmp 62) (.tmp 69) 2, _, _, _, none⟩) (v := ?_) rfl ?_ hH ?_
      rotate_left
      · (intro w hSw; (try dsimp only at hSw); go_simp; (try with_reducible rfl))
      refine rtk 15 (oi := ⟨some 71, .move (.tmp 70), _, _, _, none⟩) (v := ?_) rfl ?_ hH ?_
      rotate_left
      · (intro w hSw; (try dsimp only at hSw); go_simp; (try with_reducible rfl))
      try simp only [Act.put, List.setIfInBounds_toArray, List.set_cons_zero, List.set_cons_succ]
      refine rtk 16 (oi := ⟨some 72, .move (.tmp 1), _, _, _, some (15, false)⟩) (v := ?_) rfl ?_ hH ?_
      rotate_left
      · (intro w hSw; (try dsimp only at hSw); go_simp; (try with_reducible rfl))
      try simp only [Act.put, List.setIfInBounds_toArray, List.set_cons_zero, List.set_cons_succ]
      refine rtk 17 (oi := ⟨some 73, .move (.tmp 7), _, _, _, some (15, false)⟩) (v := ?_) rfl ?_ hH ?_
      rotate_left
      · (intro w hSw; (try dsimp only at hSw); go_simp; (try with_reducible rfl))
      try simp only [Act.put, List.setIfInBounds_toArray, List.set_cons_zero, List.set_cons_succ]
      refine rtk 18 (oi := ⟨some 74, .indexAddr 23 (.tmp 72) (.tmp 73), _, _, _, some (15, false)⟩) (v := ?_) rfl ?_ hH ?_
      rotate_left
      · (intro w hSw; (try dsimp only at hSw); go_simp; (try with_reducible rfl))
      try simp only [Act.put, List.setIfInBounds_toArray, List.set_cons_zero, List.set_cons_succ]
      refine rtk 19 (oi := ⟨some 75, .load 37 (.tmp 74), _, _, _, some (15, false)⟩) (v := ?_) rfl ?_ hH ?_
      rotate_left
      · (intro w hSw; (try dsimp only at hSw); go_simp; (try with_reducible rfl))
      try simp only [Act.put, List.setIfInBounds_toArray, List.set_cons_zero, List.set_cons_succ]
      refine rtk 20 (oi := ⟨some 76, .load 32 (.tmp 8), _, _, _, some (15, false)⟩) (v := ?_) rfl ?_ hH ?_
      rotate_left
      · (intro w hSw; (try dsimp only at hSw); go_simp; (try with_reducible rfl))
      try simp only [Act.put, List.setIfInBounds_toArray, List.set_cons_zero, List.set_cons_succ]
      refine rtk 21 (oi := ⟨some 77, .load 32 (.tmp 9), _, _, _, some (15, false)⟩) (v := ?_) rfl ?_ hH ?_
      rotate_left
      · (intro w hSw; (try dsimp only at hSw); go_simp; (try with_reducible rfl))
      try simp only [Act.put, List.setIfInBounds_toArray, List.set_cons_zero, List.set_cons_succ]
      refine rtk 23 (oi := ⟨some 79, .move (.tmp 1), _, _, _, some (15, false)⟩) (v := ?_) rfl ?_ hH ?_
      rotate_left
      · (intro w hSw; (try dsimp only at hSw); go_simp; (try with_reducible rfl))
      try simp only [Act.put, List.setIfInBounds_toArray, List.set_cons_zero, List.set_cons_succ]
      refine rtk 24 (oi := ⟨some 80, .move (.tmp 7), _, _, _, some (15, false)⟩) (v := ?_) rfl ?_ hH ?_
      rotate_left
      · (intro w hSw; (try dsimp only at hSw); go_simp; (try with_reducible rfl))
      try simp only [Act.put, List.setIfInBounds_toArray, List.set_cons_zero, List.set_cons_succ]
      refine rtk 25 (oi := ⟨some 81, .indexAddr 23 (.tmp 79) (.tmp 80), _, _, _, some (15, false)⟩) (v := ?_) rfl ?_ hH ?_
      rotate_left
      · (intro w hSw; (try dsimp only at hSw); go_simp; (try with_reducible rfl))
      try simp only [Act.put, List.setIfInBounds_toArray, List.set_cons_zero, List.set_cons_succ]
      refine rtk 26 (oi := ⟨some 82, .load 37 (.tmp 81), _, _, _, some (15, false)⟩) (v := ?_) rfl ?_ hH ?_
      rotate_left
      · (intro w hSw; (try dsimp only at hSw); go_simp; (try with_reducible rfl))
      try simp only [Act.put, List.setIfInBounds_toArray, List.set_cons_zero, List.set_cons_succ]
      refine rtk 27 (oi := ⟨some 83, .load 32 (.tmp 8), _, _, _, some (15, false)⟩) (v := ?_) rfl ?_ hH ?_
      rotate_left
      · (intro w hSw; (try dsimp only at hSw); go_simp; (try with_reducible rfl))
      try simp only [Act.put, List.setIfInBounds_toArray, List.set_cons_zero, List.set_cons_succ]
      refine rtk 28 (oi := ⟨some 84, .load 32 (.tmp 9), _, _, _, some (15, false)⟩) (v := ?_) rfl ?_ hH ?_
      rotate_left
      · (intro w hSw; (try dsimp only at hSw); go_simp; (try with_reducible rfl))
      try simp only [Act.put, List.setIfInBounds_toArray, List.set_cons_zero, List.set_cons_succ]
      refine rtk 29 (oi := ⟨some 85, .fieldAddr 32 (.tmp 8) 3, _, _, _, some (15, false)⟩) (v := ?_) rfl ?_ hH ?_
      rotate_left
      · (intro w hSw; (try dsimp only at hSw); go_simp; (try with_reducible rfl))
      try simp only [Act.put, List.setIfInBounds_toArray, List.set_cons_zero, List.set_cons_succ]
      refine rtk 30 (oi := ⟨some 86, .load 21 (.tmp 85), _, _, _, some (15, false)⟩) (v := ?_) rfl ?_ hH ?_
      rotate_left
      · (intro w hSw; (try dsimp only at hSw); go_simp; (try with_reducible rfl))
      try simp only [Act.put, List.setIfInBounds_toArray, List.set_cons_zero, List.set_cons_succ]
      refine wpAnyH_ready (rs := [22]) (by kernel_rfl) (by simp) ?_
      refine AllReadyH.cons (o := ⟨some 78, .call { callee := .value (.func 14), args := #[.tmp 75, .tmp 76, .tmp 77, .const (Value.bool false)], argTypes := #[37, 32, 32, 4] }, _, _, _, some (15, false)⟩) rfl (fun K hK => ?_) AllReadyH.nil
      go_simp
      (with_reducible refine (D2.out _).mono ?_); rintro e v9_22 ⟨rfl, g⟩
      refine hK.out _ _ (by (try dsimp only); (go_split_ands; exact ⟨Kep.all g (by assumption), Kep.all g (by assumption), Kep.all g (by assumption), Kep.all g (by assumption), Kep.all g (by assumption), Kep.all g (by assumption), Kep.all g (by assumption), Kep.all g (by assumption), Kep.all g (by assumption), Kep.all g (by assumption), Kep.all g (by assumption), Kep.all g (by assumption), Kep.all g (by assumption), Kep.all g (by assumption), Kep.all g (by assumption), Kep.all g (by assumption), Kep.all g (by assumption), Kep.all g (by assumption), Kep.all g (by assumption), Kep.all g (by assumption), Kep.all g (by assumption), Kep.all g (by assumption), Kep.all g (by assumption), Kep.all g (by assumption), Kep.all g (by assumption), kep_next (by assumption) g⟩)) (fun hH2 => ?_)
      clear hK K hH; have hH := hH2; clear hH2
      try simp only [Act.put, List.setIfInBounds_toArray, List.set_cons_zero, List.set_cons_succ]
      refine wpAnyH_ready (rs := [31]) (by kernel_rfl) (by simp) ?_
      refine AllReadyH.cons (o := ⟨some 87, .call { callee := .value (.func 15), args := #[.tmp 82, .tmp 83, .tmp 84, .tmp 86], argTypes := #[37, 32, 32, 21] }, _, _, _, some (15, false)⟩) rfl (fun K hK => ?_) AllReadyH.nil
      go_simp
      (with_reducible refine (E2.out _).mono ?_); rintro e v9_31 ⟨rfl, g⟩
      refine hK.out _ _ (by (try dsimp only); (go_split_ands; exact ⟨Kep.all g (by assumption), Kep.all g (by assumption), Kep.all g (by assumption), Kep.all g (by assumption), Kep.all g (by assumption), Kep.all g (by assumption), Kep.all g (by assumption), Kep.all g (by assumption), Kep.all g (by assumption), Kep.all g (by assumption), Kep.all g (by assumption), Kep.all g (by assumption), Kep.all g (by assumption), Kep.all g (by assumption), Kep.all g (by assumption), Kep.all g (by assumption), Kep.all g (by assumption), Kep.all g (by assumption), Kep.all g (by assumption), Kep.all g (by assumption), Kep.all g (by assumption), Kep.all g (by assumption), Kep.all g (by assumption), Kep.all g (by assumption), Kep.all g (by assumption), kep_next (by assumption) g⟩)) (fun hH2 => ?_)
      clear hK K hH; have hH := hH2; clear hH2
      try simp only [Act.put, List.setIfInBounds_toArray, List.set_cons_zero, List.set_cons_succ]
      refine rtk 32 (oi := ⟨some 88, .binOp .neq 2 (.tmp 78) (.tmp 87) 2, _, _, _, some (15, false)⟩) (v := ?_) rfl ?_ hH ?_
      rotate_left
      · (intro w hSw; (try dsimp only at hSw); go_simp; (try with_reducible rfl))
      refine rtk 33 (oi := ⟨some 89, .pick (.tmp 71) (.const (Value.bool true)) (.tmp 88), _, _, _, none⟩) (v := ?_) rfl ?_ hH ?_
      rotate_left
      · (intro w hSw; (try dsimp only at hSw); go_simp; (try with_reducible rfl))
      refine rtk 34 (oi := ⟨some 90, .move (.tmp 89), _, _, _, none⟩) (v := ?_) rfl ?_ hH ?_
      rotate_left
      · (intro w hSw; (try dsimp only at hSw); go_simp; (try with_reducible rfl))
      try simp only [Act.put, List.setIfInBounds_toArray, List.set_cons_zero, List.set_cons_succ]
      refine rtk 35 (oi := ⟨some 91, .move (.tmp 1), _, _, _, some (34, false)⟩) (v := ?_) rfl ?_ hH ?_
      rotate_left
      · (intro w hSw; (try dsimp only at hSw); go_simp; (try with_reducible rfl))
      try simp only [Act.put, List.setIfInBounds_toArray, List.set_cons_zero, List.set_cons_succ]
      refine rtk 36 (oi := ⟨some 92, .move (.tmp 7), _, _, _, some (34, false)⟩) (v := ?_) rfl ?_ hH ?_
      rotate_left
      · (intro w hSw; (try dsimp only at hSw); go_simp; (try with_reducible rfl))
      try simp only [Act.put, List.setIfInBounds_toArray, List.set_cons_zero, List.set_cons_succ]
      refine rtk 37 (oi := ⟨some 93, .indexAddr 23 (.tmp 91) (.tmp 92), _, _, _, some (34, false)⟩) (v := ?_) rfl ?_ hH ?_
      rotate_left
      · (intro w hSw; (try dsimp only at hSw); go_simp; (try with_reducible rfl))
      try simp only [Act.put, List.setIfInBounds_toArray, List.set_cons_zero, List.set_cons_succ]
      refine rtk 38 (oi := ⟨some 94, .load 37 (.tmp 93), _, _, _, some (34, false)⟩) (v := ?_) rfl ?_ hH ?_
      rotate_left
      · (intro w hSw; (try dsimp only at hSw); go_simp; (try with_reducible rfl))
      try simp only [Act.put, List.setIfInBounds_toArray, List.set_cons_zero, List.set_cons_succ]
      refine rtk 39 (oi := ⟨some 95, .load 32 (.tmp 8), _, _, _, some (34, false)⟩) (v := ?_) rfl ?_ hH ?_
      rotate_left
      · (intro w hSw; (try dsimp only at hSw); go_simp; (try with_reducible rfl))
      try simp only [Act.put, List.setIfInBounds_toArray, List.set_cons_zero, List.set_cons_succ]
      refine rtk 40 (oi := ⟨some 96, .load 32 (.tmp 9), _, _, _, some (34, false)⟩) (v := ?_) rfl ?_ hH ?_
      rotate_left
      · (intro w hSw; (try dsimp only at hSw); go_simp; (try with_reducible rfl))
      try simp only [Act.put, List.setIfInBounds_toArray, List.set_cons_zero, List.set_cons_succ]
      refine rtk 42 (oi := ⟨some 98, .move (.tmp 1), _, _, _, some (34, false)⟩) (v := ?_) rfl ?_ hH ?_
      rotate_left
      · (intro w hSw; (try dsimp only at hSw); go_simp; (try with_reducible rfl))
      try simp only [Act.put, List.setIfInBounds_toArray, List.set_cons_zero, List.set_cons_succ]
      refine rtk 43 (oi := ⟨some 99, .move (.tmp 7), _, _, _, some (34, false)⟩) (v := ?_) rfl ?_ hH ?_
      rotate_left
      · (intro w hSw; (try dsimp only at hSw); go_simp; (try with_reducible rfl))
      try simp only [Act.put, List.setIfInBounds_toArray, List.set_cons_zero, List.set_cons_succ]
      refine rtk 44 (oi := ⟨some 100, .indexAddr 23 (.tmp 98) (.tmp 99), _, _, _, some (34, false)⟩) (v := ?_) rfl ?_ hH ?_
      rotate_left
      · (intro w hSw; (try dsimp only at hSw); go_simp; (try with_reducible rfl))
      try simp only [Act.put, List.setIfInBounds_toArray, List.set_cons_zero, List.set_cons_succ]
      refine rtk 45 (oi := ⟨some 101, .load 37 (.tmp 100), _, _, _, some (34, false)⟩) (v := ?_) rfl ?_ hH ?_
      rotate_left
      · (intro w hSw; (try dsimp only at hSw); go_simp; (try with_reducible rfl))
      try simp only [Act.put, List.setIfInBounds_toArray, List.set_cons_zero, List.set_cons_succ]
      refine rtk 46 (oi := ⟨some 102, .load 32 (.tmp 8), _, _, _, some (34, false)⟩) (v := ?_) rfl ?_ hH ?_
      rotate_left
      · (intro w hSw; (try dsimp only at hSw); go_simp; (try with_reducible rfl))
      try simp only [Act.put, List.setIfInBounds_toArray, List.set_cons_zero, List.set_cons_succ]
      refine rtk 47 (oi := ⟨some 103, .load 32 (.tmp 9), _, _, _, some (34, false)⟩) (v := ?_) rfl ?_ hH ?_
      rotate_left
      · (intro w hSw; (try dsimp only at hSw); go_simp; (try with_reducible rfl))
      try simp only [Act.put, List.setIfInBounds_toArray, List.set_cons_zero, List.set_cons_succ]
      refine rtk 48 (oi := ⟨some 104, .fieldAddr 32 (.tmp 9) 3, _, _, _, some (34, false)⟩) (v := ?_) rfl ?_ hH ?_
      rotate_left
      · (intro w hSw; (try dsimp only at hSw); go_simp; (try with_reducible rfl))
      try simp only [Act.put, List.setIfInBounds_toArray, List.set_cons_zero, List.set_cons_succ]
      refine rtk 49 (oi := ⟨some 105, .load 21 (.tmp 104), _, _, _, some (34, false)⟩) (v := ?_) rfl ?_ hH ?_
      rotate_left
      · (intro w hSw; (try dsimp only at hSw); go_simp; (try with_reducible rfl))
      try simp only [Act.put, List.setIfInBounds_toArray, List.set_cons_zero, List.set_cons_succ]
      refine wpAnyH_ready (rs := [41]) (by kernel_rfl) (by simp) ?_
      refine AllReadyH.cons (o := ⟨some 97, .call { callee := .value (.func 14), args := #[.tmp 94, .tmp 95, .tmp 96, .const (Value.bool true)], argTypes := #[37, 32, 32, 4] }, _, _, _, some (34, false)⟩) rfl (fun K hK => ?_) AllReadyH.nil
      go_simp
      (with_reducible refine (D3.out _).mono ?_); rintro e v9_41 ⟨rfl, g⟩
      refine hK.out _ _ (by (try dsimp only); (go_split_ands; exact ⟨Kep.all g (by assumption), Kep.all g (by assumption), Kep.all g (by assumption), Kep.all g (by assumption), Kep.all g (by assumption), Kep.all g (by assumption), Kep.all g (by assumption), Kep.all g (by assumption), Kep.all g (by assumption), Kep.all g (by assumption), Kep.all g (by assumption), Kep.all g (by assumption), Kep.all g (by assumption), Kep.all g (by assumption), Kep.all g (by assumption), Kep.all g (by assumption), Kep.all g (by assumption), Kep.all g (by assumption), Kep.all g (by assumption), Kep.all g (by assumption), Kep.all g (by assumption), Kep.all g (by assumption), Kep.all g (by assumption), Kep.all g (by assumption), Kep.all g (by assumption), kep_next (by assumption) g⟩)) (fun hH2 => ?_)
      clear hK K hH; have hH := hH2; clear hH2
      try simp only [Act.put, List.setIfInBounds_toArray, List.set_cons_zero, List.set_cons_succ]
      refine wpAnyH_ready (rs := [50]) (by kernel_rfl) (by simp) ?_
      refine AllReadyH.cons (o := ⟨some 106, .call { callee := .value (.func 15), args := #[.tmp 101, .tmp 102, .tmp 103, .tmp 105], argTypes := #[37, 32, 32, 21] }, _, _, _, some (34, false)⟩) rfl (fun K hK => ?_) AllReadyH.nil
      go_simp
      (with_reducible refine (E3.out _).mono ?_); rintro e v9_50 ⟨rfl, g⟩
      refine hK.out _ _ (by (try dsimp only); (go_split_ands; exact ⟨Kep.all g (by assumption), Kep.all g (by assumption), Kep.all g (by assumption), Kep.all g (by assumption), Kep.all g (by assumption), Kep.all g (by assumption), Kep.all g (by assumption), Kep.all g (by assumption), Kep.all g (by assumption), Kep.all g (by assumption), Kep.all g (by assumption), Kep.all g (by assumption), Kep.all g (by assumption), Kep.all g (by assumption), Kep.all g (by assumption), Kep.all g (by assumption), Kep.all g (by assumption), Kep.all g (by assumption), Kep.all g (by assumption), Kep.all g (by assumption), Kep.all g (by assumption), Kep.all g (by assumption), Kep.all g (by assumption), Kep.all g (by assumption), Kep.all g (by assumption), kep_next (by assumption) g⟩)) (fun hH2 => ?_)
      clear hK K hH; have hH := hH2; clear hH2
      try simp only [Act.put, List.setIfInBounds_toArray, List.set_cons_zero, List.set_cons_succ]
      refine rtk 51 (oi := ⟨some 107, .binOp .neq 2 (.tmp 97) (.tmp 106) 2, _, _, _, some (34, false)⟩) (v := ?_) rfl ?_ hH ?_
      rotate_left
      · (intro w hSw; (try dsimp only at hSw); go_simp; (try with_reducible rfl))
      refine rtk 52 (oi := ⟨some 108, .pick (.tmp 90) (.const (Value.bool true)) (.tmp 107), _, _, _, none⟩) (v := ?_) rfl ?_ hH ?_
      rotate_left
      · (intro w hSw; (try dsimp only at hSw); go_simp; (try with_reducible rfl))
      try simp only [Act.put, List.setIfInBounds_toArray, List.set_cons_zero, List.set_cons_succ]
      refine wpAnyH_done (by kernel_rfl) ?_ _
      refine NoPanic.normal ?_
      clear s0 s1 s2 s3 s4 x0 x1 x2 x3 x4 x5 x6 x7 x8 x9 y0 y1 y2 y3 y4 y5 y6 y7 y8 y9 gg
      obtain ⟨s0, s1, s2, s3, s4, x0, x1, x2, x3, x4, x5, x6, x7, x8, x9, y0, y1, y2, y3, y4, y5, y6, y7, y8, y9, gg⟩ := hH
      have HK := Lib.hid (gi.trans (gg.mono gz))
      go_wp2_with fail
      go_roundw
      case rel => exact ⟨k + 1, by omega, by go_num, HK⟩
      case measure => simp [RowKit.intOf]; omega
    · obtain rfl : k = nc := by omega
      have gg := kep_next G0.out gi
      have l1 := HL.out.kep gi
      clear HP
      go_wp2_with (first
        | ((with_reducible refine (PS.out _ _ l1 (HC.out.kep gg)).mono ?_); rintro e w5 ⟨v5, rfl, ⟨s5, -⟩, g5⟩; replace l1 := l1.kep g5; replace gg := kep_next gg g5)
        | ((with_reducible refine (TS.out _ _ s5).mono ?_); rintro e w6 ⟨v6, rfl, s6, g6⟩; replace l1 := l1.kep g6; replace gg := kep_next gg g6)
        | ((with_reducible refine (RS.out _ _ _ l1 (HC.out.kep gg)).mono ?_); rintro e w7 ⟨v7, rfl, s7, g7⟩; replace s6 := s6.kep g7; replace gg := kep_next gg g7)
        | ((with_reducible refine (RM.out _ _ _ s6 s7).mono ?_); rintro e w8 ⟨rfl, g8⟩; replace gg := kep_next gg g8))
      go_ret
      exact ⟨rfl, gg⟩
/-- The law CorrectMatchesReference. -/
theorem cml8_law (O : SOps) (AW : SAwake)  (L : List Bd) (v : Value) (w : World) (hq : Lst w v L) (C : List Ct) (l : Value) (hc : Sq ctv 5 w l C) (HF : ∀ x ∈ L, Fits x) : Calls Try.prog 3 #[v, l] w fun e w' => e = .returned (.bool true) ∧ Kep w.heap.size w w' := by
  cases hvw : viwB L
  · exact cml8_bad (Lib.hid AW)  L v w hq C l hc hvw
  · cases hr : rgtS (sortL L) C
    · exact cml8_not (Lib.hid AW)  L v w hq C l hc (Lib.hid HF) hvw hr
    · exact cml8_ok O (Lib.hid AW)  L v w hq C l hc (Lib.hid HF) hvw hr
end Go.Proofs.Ytlbbacmpdlghaaa
