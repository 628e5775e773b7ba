/-
  Package jacobi: Sums.
-/
import Derived.Test.YtbeaoogjcgplnaaJacOps1
import Derived.Deep.DeepCutAuto
import Derived.Laws.MakeOwn
import Derived.Laws.OwnMore
import Derived.Deep.QuietTactic
import Derived.BigQuiet
import Derived.StillTailTactics
namespace Go.Proofs.Ytbeaoogjcgplnaa
open Go.RowKit Go.Lib

set_option maxRecDepth 100000 in
set_option maxHeartbeats 4000000 in
theorem jeach {L : List Bd} {C : List Ct} (A : JArg L C) {n : Nat} {v l : Value} {wa wb w : World} {gx gy cx cy : Nat} (hv : Lst wa v L) (hl : Sq ctv 5 wa l C) (hn : L.length = n) (h : JS wa wb w gx gy (L.map (sumJ (·.nx) L [])) (L.map (sumJ (·.ny) L []))) :
    Calls Try.prog 21 #[l, .func (.func 22) #[.agg #[v, .slice (some ⟨gx, 0, none⟩) n cx, .slice (some ⟨gy, 0, none⟩) n cy]] #[]] w fun e w' => e = .returned (.tuple #[]) ∧ JS wa wb w' gx gy (L.map (sumJ (·.nx) L C)) (L.map (sumJ (·.ny) L C)) := by
  obtain ⟨bc, cc, rfl, hc⟩ := hl
  have HC := Lib.hid hc
  have HA := Lib.hid A
  have HAD := Lib.hid (fun (D : List Ct) (c : Ct) (w' : World) (h1 : ∀ c ∈ D, RgC L c) (h2 : D.length ≤ 100) (h3 : RgC L c) (k : JS wa wb w' gx gy (L.map (sumJ (·.nx) L D)) (L.map (sumJ (·.ny) L D))) => jadd (cx := cx) (cy := cy) A.vw.asc A.vw.len A.vw.ok h1 h2 h3 hv hn k)
  have H0 := Lib.hid h
  have hfew := A.few
  clear hc A hv hn h
  generalize hnc : C.length = nc at *
  have HN := Lib.hid hnc
  clear hnc
  go_enter Try.func21, Try.ntmps21
  go_wp2_with fail
  go_loopw [8] (fun i wr => ∃ k : Nat, k ≤ nc ∧ i = .int .i64 k ∧ Hid (JS wa wb wr gx gy (L.map (sumJ (·.nx) L (C.take k))) (L.map (sumJ (·.ny) L (C.take k))))) (fun i _ => nc - (RowKit.intOf i).toNat)
  case atStart => exact ⟨0, by omega, rfl, Lib.hid (by rw [List.take_zero]; exact H0.out)⟩
  case round =>
    obtain ⟨k, hk, rfl, HP⟩ := hrel
    by_cases hlt : k < nc
    · have hb : C[k]? = some (C[k]'(by rw [HN.out]; exact hlt)) := List.getElem?_eq_getElem _
      generalize C[k]'(by rw [HN.out]; exact hlt) = c at hb
      obtain ⟨gc, oc, rfl, q⟩ := HC.out k c hb
      have t0 : wr.cell? ⟨gc, oc + k * 5, none⟩ = some (.int .u32 c.lo) := HP.out.kep.all (q 0 _ rfl)
      have t1 : wr.cell? ⟨gc, oc + k * 5 + 1, none⟩ = some (.int .u32 c.hi) := HP.out.kep.all (q 1 _ rfl)
      have t2 : wr.cell? ⟨gc, oc + k * 5 + 2, none⟩ = some (.int .i32 c.nx) := HP.out.kep.all (q 2 _ rfl)
      have t3 : wr.cell? ⟨gc, oc + k * 5 + 3, none⟩ = some (.int .i32 c.ny) := HP.out.kep.all (q 3 _ rfl)
      have t4 : wr.cell? ⟨gc, oc + k * 5 + 4, none⟩ = some (.int .i32 c.dp) := HP.out.kep.all (q 4 _ rfl)
      have ht : C.take (k + 1) = C.take k ++ [c] := by rw [List.take_add_one, hb]; rfl
      have CA : Hid (Calls Try.prog 22 #[.agg #[v, .slice (some ⟨gx, 0, none⟩) n cx, .slice (some ⟨gy, 0, none⟩) n cy], .agg #[.int .u32 c.lo, .int .u32 c.hi, .int .i32 c.nx, .int .i32 c.ny, .int .i32 c.dp]] (wr.alloc (.cells #[.int .u32 c.lo, .int .u32 c.hi, .int .i32 c.nx, .int .i32 c.ny, .int .i32 c.dp] 41)) fun e w' => e = .returned (.tuple #[]) ∧ Hid (JS wa wb w' gx gy (L.map (sumJ (·.nx) L (C.take (k + 1)))) (L.map (sumJ (·.ny) L (C.take (k + 1)))))) := Lib.hid (by
        refine (HAD.out (C.take k) c _ (fun c hc => HA.out.rg c (List.mem_of_mem_take hc)) (by rw [List.length_take]; omega) (HA.out.rg c (List.mem_of_getElem? hb)) (HP.out.on (kep_more (Kep.refl _ _) _))).mono ?_
        rintro e w' ⟨he, h'⟩
        exact ⟨he, Lib.hid (by rw [ht]; exact h')⟩)
      have i0 : (0 : Int) ≤ (k : Int) := Int.natCast_nonneg _
      have i1 : (k : Int) < (nc : Int) := by omega
      clear hb q ht HP
      go_wp2_with ((with_reducible refine (CA.out).mono ?_); rintro e w4 ⟨rfl, F4⟩)
      go_roundw
      case rel => exact ⟨k + 1, by omega, by first | rfl | go_num, F4⟩
      case measure => simp [RowKit.intOf]; omega
    · have i2 : ¬ (k : Int) < (nc : Int) := by omega
      obtain rfl : k = nc := by omega
      go_wp2_with fail
      go_end0
      have h9 := HP.out
      rw [List.take_of_length_le (Nat.le_of_eq HN.out)] at h9
      exact ⟨rfl, h9⟩
theorem mk_i64 (n : Nat) (h : n ≤ 1000) (W : World) : (Instr.makeSlice 28 (.int .i64 (n : Int)) (.int .i64 (n : Int))).run Try.prog W = .ok (.slice (some ⟨W.heap.size, 0, none⟩) n n) (W.alloc (.cells (madeCells #[.int .i64 0] n) 2)) := by
  obtain ⟨i0, hi, hz0, hz1, hz2⟩ := info_parts info_i64
  have r := run_make (P := Try.prog) W 28 2 i0 _ Try.underlying28 hi hz0 .i64 .i64 (n : Int) (n : Int) (by omega) (Int.le_refl _) (by rw [hz2]; omega) (by omega)
  rw [hz1, Int.toNat_natCast, Nat.mul_one] at r
  exact r
theorem zc_row (W : World) (n : Nat) (t : TypeId) : ZC (W.alloc (.cells (madeCells #[.int .i64 0] n) t)) W.heap.size (ivs (List.replicate n 0)) := by
  have e : madeCells #[.int .i64 0] n = ⟨ivs (List.replicate n 0)⟩ := by
    have := toList_madeCells_one (.int .i64 0) n
    unfold ivs
    rw [List.map_replicate, ← this]
  rw [e]
  exact zc_new _ _ _
theorem sums_start {w Y : World} {tb gx gy : Nat} {vs : List Value} {xs ys : List Int} (k : Kep w.heap.size w Y) (h1 : w.heap.size ≤ tb) (h2 : w.heap.size ≤ gx) (h3 : w.heap.size ≤ gy) (ht : ZC Y tb vs) (hx : ZC Y gx (ivs xs)) (hy : ZC Y gy (ivs ys)) (n1 : tb ≠ gx) (n2 : tb ≠ gy) (n3 : gx ≠ gy) (a b c : Value) (hl : 3 ≤ vs.length := by decide) :
    ZC (((Y.setCell ⟨tb, 0, none⟩ a).setCell ⟨tb, 1, none⟩ b).setCell ⟨tb, 2, none⟩ c) tb [a, b, c] ∧ JS w (((Y.setCell ⟨tb, 0, none⟩ a).setCell ⟨tb, 1, none⟩ b).setCell ⟨tb, 2, none⟩ c) (((Y.setCell ⟨tb, 0, none⟩ a).setCell ⟨tb, 1, none⟩ b).setCell ⟨tb, 2, none⟩ c) gx gy xs ys ∧ tb ≠ gx ∧ tb ≠ gy := by
  have z := ht.set [a, b, c] (by simpa using hl)
  simp only [setAll, Nat.zero_add, Nat.reduceAdd] at z
  exact ⟨z, ⟨((k.setCell h1 _).setCell h1 _).setCell h1 _, .refl _ _ _, h2, h3, n3, ((hx.far1 n1.symm _).far1 n1.symm _).far1 n1.symm _, ((hy.far1 n2.symm _).far1 n2.symm _).far1 n2.symm _⟩, n1, n2⟩
theorem sums_nil (f : Ct → Int) (L : List Bd) : L.map (sumJ f L []) = List.replicate L.length 0 := by
  rw [show sumJ f L [] = fun _ => 0 from rfl, List.map_const']
theorem sq_row {w : World} {g cap n : Nat} {xs : List Int} (h : ZC w g (ivs xs)) (hn : xs.length = n) : Sq nv 1 w (.slice (some ⟨g, 0, none⟩) n cap) xs := by
  subst hn
  refine ⟨_, cap, rfl, fun k x hx => ⟨g, 0, rfl, fun i u hu => ?_⟩⟩
  have hi : i = 0 := by
    have := (List.getElem?_eq_some_iff.1 hu).1
    rw [nv_len] at this
    omega
  subst hi
  have e : u = .int .i64 x := by simpa [nv] using hu.symm
  rw [e, Nat.zero_add, Nat.mul_one, Nat.add_zero]
  exact h.i (ivs_at hx)
set_option maxRecDepth 100000 in
set_option maxHeartbeats 4000000 in
theorem jsums : JSums := fun v L l C w hv hl A => by
  obtain ⟨base, cap, rfl⟩ := hv.shape
  have h40 := A.vw.len
  have HE := Lib.hid (fun (gx gy : Nat) (wb : World) (h : JS w wb wb gx gy (L.map (sumJ (·.nx) L [])) (L.map (sumJ (·.ny) L []))) => jeach (cx := L.length) (cy := L.length) A hv hl rfl h)
  rw [sums_nil, sums_nil] at HE
  have HXL := Lib.hid (show (L.map (sumJ (·.nx) L C)).length = L.length from List.length_map ..)
  have HYL := Lib.hid (show (L.map (sumJ (·.ny) L C)).length = L.length from List.length_map ..)
  generalize L.map (sumJ (·.nx) L C) = Xs at *
  generalize L.map (sumJ (·.ny) L C) = Ys at *
  clear hv hl A
  generalize L.length = n at *
  have hmk := mk_i64 n (by omega)
  have hmf : ∀ (fn : Fn) (first cap : Array Value) (w : World), (Instr.makeFunc fn first cap).run Try.prog w = .ok (.func fn first cap) w := fun _ _ _ _ => rfl
  go_enter Try.func11, Try.ntmps11
  go_upto_region 1 with fail
  go_cut [6] (fun s6 wx => ∃ tb gx gy, s6 = .pointer (some ⟨tb, 0, none⟩) ∧ Hid (ZC wx tb [.slice base n cap, .slice (some ⟨gx, 0, none⟩) n n, .slice (some ⟨gy, 0, none⟩) n n] ∧ JS w wx wx gx gy (List.replicate n 0) (List.replicate n 0) ∧ tb ≠ gx ∧ tb ≠ gy))
  case first =>
    refine wp_region_noPanic ?_
    refine wp_region_held_drew (S := fun w' => Kep w.heap.size w w') (by kernel_rfl) (kep_drew (Kep.refl _ _)) (fun hH => ?_)
    generalize w.drew = Y0 at hH ⊢
    refine rtk 0 (oi := ⟨some 7, .move (.tmp 0), _, _, _, none⟩) (v := ?_) rfl ?_ hH ?_
    rotate_left
    · (intro w hSw; (try dsimp only at hSw); go_simp; (try with_reducible rfl))
    refine rtk 1 (oi := ⟨some 8, .move (.tmp 0), _, _, _, none⟩) (v := ?_) rfl ?_ hH ?_
    rotate_left
    · (intro w hSw; (try dsimp only at hSw); go_simp; (try with_reducible rfl))
    refine rtk 2 (oi := ⟨some 9, .call { callee := .builtin Builtin.len, args := #[.tmp 8], argTypes := #[22] }, _, _, _, none⟩) (v := ?_) rfl ?_ hH ?_
    rotate_left
    · (intro w hSw; (try dsimp only at hSw); go_simp; (try with_reducible rfl))
    try simp only [Act.put, List.setIfInBounds_toArray, List.set_cons_zero, List.set_cons_succ]
    refine rtk 4 (oi := ⟨some 11, .move (.tmp 0), _, _, _, none⟩) (v := ?_) rfl ?_ hH ?_
    rotate_left
    · (intro w hSw; (try dsimp only at hSw); go_simp; (try with_reducible rfl))
    refine rtk 5 (oi := ⟨some 12, .call { callee := .builtin Builtin.len, args := #[.tmp 11], argTypes := #[22] }, _, _, _, none⟩) (v := ?_) rfl ?_ hH ?_
    rotate_left
    · (intro w hSw; (try dsimp only at hSw); go_simp; (try with_reducible rfl))
    try simp only [Act.put, List.setIfInBounds_toArray, List.set_cons_zero, List.set_cons_succ]
    refine wpAnyH_ready (rs := [3, 6, 8]) (by kernel_rfl) (by simp) ?_
    refine AllReadyH.cons (o := ⟨some 10, .makeSlice 28 (.tmp 9) (.tmp 9), _, _, _, none⟩) rfl (fun K hK => ?_) (AllReadyH.cons (o := ⟨some 13, .makeSlice 28 (.tmp 12) (.tmp 12), _, _, _, none⟩) rfl (fun K hK => ?_) (AllReadyH.cons (o := ⟨some 6, .alloc 50, _, _, _, none⟩) rfl (fun K hK => ?_) AllReadyH.nil))
    · go_simp
      have hgx := zc_row Y0 n 2
      have lgx := hH.size
      have hk := kep_more hH (.cells (madeCells #[.int .i64 0] n) 2)
      refine hK.out _ _ hk (fun hH2 => ?_)
      clear hK K hH hH2; have hH := hk; clear hk
      generalize Y0.heap.size = gx at *
      generalize Y0.alloc _ = Y1 at *
      try simp only [Act.put, List.setIfInBounds_toArray, List.set_cons_zero, List.set_cons_succ]
      refine wpAnyH_ready (rs := [6, 8]) (by kernel_rfl) (by simp) ?_
      refine AllReadyH.cons (o := ⟨some 13, .makeSlice 28 (.tmp 12) (.tmp 12), _, _, _, none⟩) rfl (fun K hK => ?_) (AllReadyH.cons (o := ⟨some 6, .alloc 50, _, _, _, none⟩) rfl (fun K hK => ?_) AllReadyH.nil)
      · go_simp
        have hgy := zc_row Y1 n 2
        have lgy := hH.size
        have ngxgy : gx ≠ Y1.heap.size := by have := hgx.lt; omega
        replace hgx := hgx.more (.cells (madeCells #[.int .i64 0] n) 2)
        have hk := kep_more hH (.cells (madeCells #[.int .i64 0] n) 2)
        refine hK.out _ _ hk (fun hH2 => ?_)
        clear hK K hH hH2; have hH := hk; clear hk
        generalize Y1.heap.size = gy at *
        generalize Y1.alloc _ = Y2 at *
        refine rtk 7 (oi := ⟨some 14, .build 50 #[(0, .tmp 7), (1, .tmp 10), (2, .tmp 13)], _, _, _, none⟩) (v := ?_) rfl ?_ hH ?_
        rotate_left
        · (intro w hSw; (try dsimp only at hSw); go_simp; (try with_reducible rfl))
        try simp only [Act.put, List.setIfInBounds_toArray, List.set_cons_zero, List.set_cons_succ]
        refine wpAnyH_ready (rs := [8]) (by kernel_rfl) (by simp) ?_
        refine AllReadyH.cons (o := ⟨some 6, .alloc 50, _, _, _, none⟩) rfl (fun K hK => ?_) AllReadyH.nil
        go_simp
        have htb := zc_new Y2 [.slice none 0 0, .slice none 0 0, .slice none 0 0] 50
        have ltb := hH.size
        have ngxtb : gx ≠ Y2.heap.size := by have := hgx.lt; omega
        replace hgx := hgx.more (.cells #[.slice none 0 0, .slice none 0 0, .slice none 0 0] 50)
        have ngytb : gy ≠ Y2.heap.size := by have := hgy.lt; omega
        replace hgy := hgy.more (.cells #[.slice none 0 0, .slice none 0 0, .slice none 0 0] 50)
        have hk := kep_more hH (.cells #[.slice none 0 0, .slice none 0 0, .slice none 0 0] 50)
        refine hK.out _ _ hk (fun hH2 => ?_)
        clear hK K hH hH2; have hH := hk; clear hk
        generalize Y2.heap.size = tb at *
        generalize Y2.alloc _ = Y3 at *
        try simp only [Act.put, List.setIfInBounds_toArray, List.set_cons_zero, List.set_cons_succ]
        refine wpAnyH_ready (rs := [9]) (by kernel_rfl) (by simp) ?_
        refine AllReadyH.cons (o := ⟨none, .store 50 (.tmp 6) (.tmp 14), _, _, _, none⟩) rfl (fun K hK => ?_) AllReadyH.nil
        have z0 := htb.i (i := 0) rfl; have z1 := htb.i (i := 1) rfl; have z2 := htb.i (i := 2) rfl; have x0 := htb.frz 0; have x1 := htb.frz 1; have x2 := htb.frz 2
        have HT := Lib.hid (sums_start hH ltb lgx lgy htb hgx hgy ngxtb.symm ngytb.symm ngxgy (.slice base n cap) (.slice (some ⟨gx, 0, none⟩) n n) (.slice (some ⟨gy, 0, none⟩) n n))
        clear hgx hgy
        go_simp
        refine hK.out _ _ (by exact HT.out.2.1.kep) (fun hH2 => ?_)
        clear hK K hH hH2 z0 z1 z2 x0 x1 x2 htb
        try simp only [Act.put, List.setIfInBounds_toArray, List.set_cons_zero, List.set_cons_succ]
        refine wpAnyH_done (by kernel_rfl) ?_ _
        refine NoPanic.normal ?_
        go_wp2_with fail
        go_meet
        exact ⟨_, _, _, rfl, HT⟩
      · go_simp
        have htb := zc_new Y1 [.slice none 0 0, .slice none 0 0, .slice none 0 0] 50
        have ltb := hH.size
        have ngxtb : gx ≠ Y1.heap.size := by have := hgx.lt; omega
        replace hgx := hgx.more (.cells #[.slice none 0 0, .slice none 0 0, .slice none 0 0] 50)
        have hk := kep_more hH (.cells #[.slice none 0 0, .slice none 0 0, .slice none 0 0] 50)
        refine hK.out _ _ hk (fun hH2 => ?_)
        clear hK K hH hH2; have hH := hk; clear hk
        generalize Y1.heap.size = tb at *
        generalize Y1.alloc _ = Y2 at *
        try simp only [Act.put, List.setIfInBounds_toArray, List.set_cons_zero, List.set_cons_succ]
        refine wpAnyH_ready (rs := [6]) (by kernel_rfl) (by simp) ?_
        refine AllReadyH.cons (o := ⟨some 13, .makeSlice 28 (.tmp 12) (.tmp 12), _, _, _, none⟩) rfl (fun K hK => ?_) AllReadyH.nil
        go_simp
        have hgy := zc_row Y2 n 2
        have lgy := hH.size
        have ngxgy : gx ≠ Y2.heap.size := by have := hgx.lt; omega
        replace hgx := hgx.more (.cells (madeCells #[.int .i64 0] n) 2)
        have ntbgy : tb ≠ Y2.heap.size := by have := htb.lt; omega
        replace htb := htb.more (.cells (madeCells #[.int .i64 0] n) 2)
        have hk := kep_more hH (.cells (madeCells #[.int .i64 0] n) 2)
        refine hK.out _ _ hk (fun hH2 => ?_)
        clear hK K hH hH2; have hH := hk; clear hk
        generalize Y2.heap.size = gy at *
        generalize Y2.alloc _ = Y3 at *
        refine rtk 7 (oi := ⟨some 14, .build 50 #[(0, .tmp 7), (1, .tmp 10), (2, .tmp 13)], _, _, _, none⟩) (v := ?_) rfl ?_ hH ?_
        rotate_left
        · (intro w hSw; (try dsimp only at hSw); go_simp; (try with_reducible rfl))
        try simp only [Act.put, List.setIfInBounds_toArray, List.set_cons_zero, List.set_cons_succ]
        refine wpAnyH_ready (rs := [9]) (by kernel_rfl) (by simp) ?_
        refine AllReadyH.cons (o := ⟨none, .store 50 (.tmp 6) (.tmp 14), _, _, _, none⟩) rfl (fun K hK => ?_) AllReadyH.nil
        have z0 := htb.i (i := 0) rfl; have z1 := htb.i (i := 1) rfl; have z2 := htb.i (i := 2) rfl; have x0 := htb.frz 0; have x1 := htb.frz 1; have x2 := htb.frz 2
        have HT := Lib.hid (sums_start hH ltb lgx lgy htb hgx hgy ngxtb.symm ntbgy ngxgy (.slice base n cap) (.slice (some ⟨gx, 0, none⟩) n n) (.slice (some ⟨gy, 0, none⟩) n n))
        clear hgx hgy
        go_simp
        refine hK.out _ _ (by exact HT.out.2.1.kep) (fun hH2 => ?_)
        clear hK K hH hH2 z0 z1 z2 x0 x1 x2 htb
        try simp only [Act.put, List.setIfInBounds_toArray, List.set_cons_zero, List.set_cons_succ]
        refine wpAnyH_done (by kernel_rfl) ?_ _
        refine NoPanic.normal ?_
        go_wp2_with fail
        go_meet
        exact ⟨_, _, _, rfl, HT⟩
    · go_simp
      have hgy := zc_row Y0 n 2
      have lgy := hH.size
      have hk := kep_more hH (.cells (madeCells #[.int .i64 0] n) 2)
      refine hK.out _ _ hk (fun hH2 => ?_)
      clear hK K hH hH2; have hH := hk; clear hk
      generalize Y0.heap.size = gy at *
      generalize Y0.alloc _ = Y1 at *
      try simp only [Act.put, List.setIfInBounds_toArray, List.set_cons_zero, List.set_cons_succ]
      refine wpAnyH_ready (rs := [3, 8]) (by kernel_rfl) (by simp) ?_
      refine AllReadyH.cons (o := ⟨some 10, .makeSlice 28 (.tmp 9) (.tmp 9), _, _, _, none⟩) rfl (fun K hK => ?_) (AllReadyH.cons (o := ⟨some 6, .alloc 50, _, _, _, none⟩) rfl (fun K hK => ?_) AllReadyH.nil)
      · go_simp
        have hgx := zc_row Y1 n 2
        have lgx := hH.size
        have ngygx : gy ≠ Y1.heap.size := by have := hgy.lt; omega
        replace hgy := hgy.more (.cells (madeCells #[.int .i64 0] n) 2)
        have hk := kep_more hH (.cells (madeCells #[.int .i64 0] n) 2)
        refine hK.out _ _ hk (fun hH2 => ?_)
        clear hK K hH hH2; have hH := hk; clear hk
        generalize Y1.heap.size = gx at *
        generalize Y1.alloc _ = Y2 at *
        refine rtk 7 (oi := ⟨some 14, .build 50 #[(0, .tmp 7), (1, .tmp 10), (2, .tmp 13)], _, _, _, none⟩) (v := ?_) rfl ?_ hH ?_
        rotate_left
        · (intro w hSw; (try dsimp only at hSw); go_simp; (try with_reducible rfl))
        try simp only [Act.put, List.setIfInBounds_toArray, List.set_cons_zero, List.set_cons_succ]
        refine wpAnyH_ready (rs := [8]) (by kernel_rfl) (by simp) ?_
        refine AllReadyH.cons (o := ⟨some 6, .alloc 50, _, _, _, none⟩) rfl (fun K hK => ?_) AllReadyH.nil
        go_simp
        have htb := zc_new Y2 [.slice none 0 0, .slice none 0 0, .slice none 0 0] 50
        have ltb := hH.size
        have ngytb : gy ≠ Y2.heap.size := by have := hgy.lt; omega
        replace hgy := hgy.more (.cells #[.slice none 0 0, .slice none 0 0, .slice none 0 0] 50)
        have ngxtb : gx ≠ Y2.heap.size := by have := hgx.lt; omega
        replace hgx := hgx.more (.cells #[.slice none 0 0, .slice none 0 0, .slice none 0 0] 50)
        have hk := kep_more hH (.cells #[.slice none 0 0, .slice none 0 0, .slice none 0 0] 50)
        refine hK.out _ _ hk (fun hH2 => ?_)
        clear hK K hH hH2; have hH := hk; clear hk
        generalize Y2.heap.size = tb at *
        generalize Y2.alloc _ = Y3 at *
        try simp only [Act.put, List.setIfInBounds_toArray, List.set_cons_zero, List.set_cons_succ]
        refine wpAnyH_ready (rs := [9]) (by kernel_rfl) (by simp) ?_
        refine AllReadyH.cons (o := ⟨none, .store 50 (.tmp 6) (.tmp 14), _, _, _, none⟩) rfl (fun K hK => ?_) AllReadyH.nil
        have z0 := htb.i (i := 0) rfl; have z1 := htb.i (i := 1) rfl; have z2 := htb.i (i := 2) rfl; have x0 := htb.frz 0; have x1 := htb.frz 1; have x2 := htb.frz 2
        have HT := Lib.hid (sums_start hH ltb lgx lgy htb hgx hgy ngxtb.symm ngytb.symm ngygx.symm (.slice base n cap) (.slice (some ⟨gx, 0, none⟩) n n) (.slice (some ⟨gy, 0, none⟩) n n))
        clear hgx hgy
        go_simp
        refine hK.out _ _ (by exact HT.out.2.1.kep) (fun hH2 => ?_)
        clear hK K hH hH2 z0 z1 z2 x0 x1 x2 htb
        try simp only [Act.put, List.setIfInBounds_toArray, List.set_cons_zero, List.set_cons_succ]
        refine wpAnyH_done (by kernel_rfl) ?_ _
        refine NoPanic.normal ?_
        go_wp2_with fail
        go_meet
        exact ⟨_, _, _, rfl, HT⟩
      · go_simp
        have htb := zc_new Y1 [.slice none 0 0, .slice none 0 0, .slice none 0 0] 50
        have ltb := hH.size
        have ngytb : gy ≠ Y1.heap.size := by have := hgy.lt; omega
        replace hgy := hgy.more (.cells #[.slice none 0 0, .slice none 0 0, .slice none 0 0] 50)
        have hk := kep_more hH (.cells #[.slice none 0 0, .slice none 0 0, .slice none 0 0] 50)
        refine hK.out _ _ hk (fun hH2 => ?_)
        clear hK K hH hH2; have hH := hk; clear hk
        generalize Y1.heap.size = tb at *
        generalize Y1.alloc _ = Y2 at *
        try simp only [Act.put, List.setIfInBounds_toArray, List.set_cons_zero, List.set_cons_succ]
        refine wpAnyH_ready (rs := [3]) (by kernel_rfl) (by simp) ?_
        refine AllReadyH.cons (o := ⟨some 10, .makeSlice 28 (.tmp 9) (.tmp 9), _, _, _, none⟩) rfl (fun K hK => ?_) AllReadyH.nil
        go_simp
        have hgx := zc_row Y2 n 2
        have lgx := hH.size
        have ngygx : gy ≠ Y2.heap.size := by have := hgy.lt; omega
        replace hgy := hgy.more (.cells (madeCells #[.int .i64 0] n) 2)
        have ntbgx : tb ≠ Y2.heap.size := by have := htb.lt; omega
        replace htb := htb.more (.cells (madeCells #[.int .i64 0] n) 2)
        have hk := kep_more hH (.cells (madeCells #[.int .i64 0] n) 2)
        refine hK.out _ _ hk (fun hH2 => ?_)
        clear hK K hH hH2; have hH := hk; clear hk
        generalize Y2.heap.size = gx at *
        generalize Y2.alloc _ = Y3 at *
        refine rtk 7 (oi := ⟨some 14, .build 50 #[(0, .tmp 7), (1, .tmp 10), (2, .tmp 13)], _, _, _, none⟩) (v := ?_) rfl ?_ hH ?_
        rotate_left
        · (intro w hSw; (try dsimp only at hSw); go_simp; (try with_reducible rfl))
        try simp only [Act.put, List.setIfInBounds_toArray, List.set_cons_zero, List.set_cons_succ]
        refine wpAnyH_ready (rs := [9]) (by kernel_rfl) (by simp) ?_
        refine AllReadyH.cons (o := ⟨none, .store 50 (.tmp 6) (.tmp 14), _, _, _, none⟩) rfl (fun K hK => ?_) AllReadyH.nil
        have z0 := htb.i (i := 0) rfl; have z1 := htb.i (i := 1) rfl; have z2 := htb.i (i := 2) rfl; have x0 := htb.frz 0; have x1 := htb.frz 1; have x2 := htb.frz 2
        have HT := Lib.hid (sums_start hH ltb lgx lgy htb hgx hgy ntbgx ngytb.symm ngygx.symm (.slice base n cap) (.slice (some ⟨gx, 0, none⟩) n n) (.slice (some ⟨gy, 0, none⟩) n n))
        clear hgx hgy
        go_simp
        refine hK.out _ _ (by exact HT.out.2.1.kep) (fun hH2 => ?_)
        clear hK K hH hH2 z0 z1 z2 x0 x1 x2 htb
        try simp only [Act.put, List.setIfInBounds_toArray, List.set_cons_zero, List.set_cons_succ]
        refine wpAnyH_done (by kernel_rfl) ?_ _
        refine NoPanic.normal ?_
        go_wp2_with fail
        go_meet
        exact ⟨_, _, _, rfl, HT⟩
    · go_simp
      have htb := zc_new Y0 [.slice none 0 0, .slice none 0 0, .slice none 0 0] 50
      have ltb := hH.size
      have hk := kep_more hH (.cells #[.slice none 0 0, .slice none 0 0, .slice none 0 0] 50)
      refine hK.out _ _ hk (fun hH2 => ?_)
      clear hK K hH hH2; have hH := hk; clear hk
      generalize Y0.heap.size = tb at *
      generalize Y0.alloc _ = Y1 at *
      try simp only [Act.put, List.setIfInBounds_toArray, List.set_cons_zero, List.set_cons_succ]
      refine wpAnyH_ready (rs := [3, 6]) (by kernel_rfl) (by simp) ?_
      refine AllReadyH.cons (o := ⟨some 10, .makeSlice 28 (.tmp 9) (.tmp 9), _, _, _, none⟩) rfl (fun K hK => ?_) (AllReadyH.cons (o := ⟨some 13, .makeSlice 28 (.tmp 12) (.tmp 12), _, _, _, none⟩) rfl (fun K hK => ?_) AllReadyH.nil)
      · go_simp
        have hgx := zc_row Y1 n 2
        have lgx := hH.size
        have ntbgx : tb ≠ Y1.heap.size := by have := htb.lt; omega
        replace htb := htb.more (.cells (madeCells #[.int .i64 0] n) 2)
        have hk := kep_more hH (.cells (madeCells #[.int .i64 0] n) 2)
        refine hK.out _ _ hk (fun hH2 => ?_)
        clear hK K hH hH2; have hH := hk; clear hk
        generalize Y1.heap.size = gx at *
        generalize Y1.alloc _ = Y2 at *
        try simp only [Act.put, List.setIfInBounds_toArray, List.set_cons_zero, List.set_cons_succ]
        refine wpAnyH_ready (rs := [6]) (by kernel_rfl) (by simp) ?_
        refine AllReadyH.cons (o := ⟨some 13, .makeSlice 28 (.tmp 12) (.tmp 12), _, _, _, none⟩) rfl (fun K hK => ?_) AllReadyH.nil
        go_simp
        have hgy := zc_row Y2 n 2
        have lgy := hH.size
        have ntbgy : tb ≠ Y2.heap.size := by have := htb.lt; omega
        replace htb := htb.more (.cells (madeCells #[.int .i64 0] n) 2)
        have ngxgy : gx ≠ Y2.heap.size := by have := hgx.lt; omega
        replace hgx := hgx.more (.cells (madeCells #[.int .i64 0] n) 2)
        have hk := kep_more hH (.cells (madeCells #[.int .i64 0] n) 2)
        refine hK.out _ _ hk (fun hH2 => ?_)
        clear hK K hH hH2; have hH := hk; clear hk
        generalize Y2.heap.size = gy at *
        generalize Y2.alloc _ = Y3 at *
        refine rtk 7 (oi := ⟨some 14, .build 50 #[(0, .tmp 7), (1, .tmp 10), (2, .tmp 13)], _, _, _, none⟩) (v := ?_) rfl ?_ hH ?_
        rotate_left
        · (intro w hSw; (try dsimp only at hSw); go_simp; (try with_reducible rfl))
        try simp only [Act.put, List.setIfInBounds_toArray, List.set_cons_zero, List.set_cons_succ]
        refine wpAnyH_ready (rs := [9]) (by kernel_rfl) (by simp) ?_
        refine AllReadyH.cons (o := ⟨none, .store 50 (.tmp 6) (.tmp 14), _, _, _, none⟩) rfl (fun K hK => ?_) AllReadyH.nil
        have z0 := htb.i (i := 0) rfl; have z1 := htb.i (i := 1) rfl; have z2 := htb.i (i := 2) rfl; have x0 := htb.frz 0; have x1 := htb.frz 1; have x2 := htb.frz 2
        have HT := Lib.hid (sums_start hH ltb lgx lgy htb hgx hgy ntbgx ntbgy ngxgy (.slice base n cap) (.slice (some ⟨gx, 0, none⟩) n n) (.slice (some ⟨gy, 0, none⟩) n n))
        clear hgx hgy
        go_simp
        refine hK.out _ _ (by exact HT.out.2.1.kep) (fun hH2 => ?_)
        clear hK K hH hH2 z0 z1 z2 x0 x1 x2 htb
        try simp only [Act.put, List.setIfInBounds_toArray, List.set_cons_zero, List.set_cons_succ]
        refine wpAnyH_done (by kernel_rfl) ?_ _
        refine NoPanic.normal ?_
        go_wp2_with fail
        go_meet
        exact ⟨_, _, _, rfl, HT⟩
      · go_simp
        have hgy := zc_row Y1 n 2
        have lgy := hH.size
        have ntbgy : tb ≠ Y1.heap.size := by have := htb.lt; omega
        replace htb := htb.more (.cells (madeCells #[.int .i64 0] n) 2)
        have hk := kep_more hH (.cells (madeCells #[.int .i64 0] n) 2)
        refine hK.out _ _ hk (fun hH2 => ?_)
        clear hK K hH hH2; have hH := hk; clear hk
        generalize Y1.heap.size = gy at *
        generalize Y1.alloc _ = Y2 at *
        try simp only [Act.put, List.setIfInBounds_toArray, List.set_cons_zero, List.set_cons_succ]
        refine wpAnyH_ready (rs := [3]) (by kernel_rfl) (by simp) ?_
        refine AllReadyH.cons (o := ⟨some 10, .makeSlice 28 (.tmp 9) (.tmp 9), _, _, _, none⟩) rfl (fun K hK => ?_) AllReadyH.nil
        go_simp
        have hgx := zc_row Y2 n 2
        have lgx := hH.size
        have ntbgx : tb ≠ Y2.heap.size := by have := htb.lt; omega
        replace htb := htb.more (.cells (madeCells #[.int .i64 0] n) 2)
        have ngygx : gy ≠ Y2.heap.size := by have := hgy.lt; omega
        replace hgy := hgy.more (.cells (madeCells #[.int .i64 0] n) 2)
        have hk := kep_more hH (.cells (madeCells #[.int .i64 0] n) 2)
        refine hK.out _ _ hk (fun hH2 => ?_)
        clear hK K hH hH2; have hH := hk; clear hk
        generalize Y2.heap.size = gx at *
        generalize Y2.alloc _ = Y3 at *
        refine rtk 7 (oi := ⟨some 14, .build 50 #[(0, .tmp 7), (1, .tmp 10), (2, .tmp 13)], _, _, _, none⟩) (v := ?_) rfl ?_ hH ?_
        rotate_left
        · (intro w hSw; (try dsimp only at hSw); go_simp; (try with_reducible rfl))
        try simp only [Act.put, List.setIfInBounds_toArray, List.set_cons_zero, List.set_cons_succ]
        refine wpAnyH_ready (rs := [9]) (by kernel_rfl) (by simp) ?_
        refine AllReadyH.cons (o := ⟨none, .store 50 (.tmp 6) (.tmp 14), _, _, _, none⟩) rfl (fun K hK => ?_) AllReadyH.nil
        have z0 := htb.i (i := 0) rfl; have z1 := htb.i (i := 1) rfl; have z2 := htb.i (i := 2) rfl; have x0 := htb.frz 0; have x1 := htb.frz 1; have x2 := htb.frz 2
        have HT := Lib.hid (sums_start hH ltb lgx lgy htb hgx hgy ntbgx ntbgy ngygx.symm (.slice base n cap) (.slice (some ⟨gx, 0, none⟩) n n) (.slice (some ⟨gy, 0, none⟩) n n))
        clear hgx hgy
        go_simp
        refine hK.out _ _ (by exact HT.out.2.1.kep) (fun hH2 => ?_)
        clear hK K hH hH2 z0 z1 z2 x0 x1 x2 htb
        try simp only [Act.put, List.setIfInBounds_toArray, List.set_cons_zero, List.set_cons_succ]
        refine wpAnyH_done (by kernel_rfl) ?_ _
        refine NoPanic.normal ?_
        go_wp2_with fail
        go_meet
        exact ⟨_, _, _, rfl, HT⟩
  case rest =>
    obtain ⟨tb, gx, gy, rfl, HT⟩ := hcut
    obtain ⟨zt, js, n1, n2⟩ := HT.out
    have t0 := zt.i (i := 0) rfl
    have t1 := zt.i (i := 1) rfl
    have t2 := zt.i (i := 2) rfl
    have CE := Lib.hid (HE.out gx gy _ js)
    clear HE hmk js HT
    go_upto_region 3 with ((with_reducible refine (CE.out).mono ?_); rintro e w4 ⟨rfl, h4⟩; have z4 := h4.fr.zc n1 n2 zt)
    have H4 := Lib.hid h4
    clear t0 t1 t2
    have t1 := z4.i (i := 1) rfl
    have t2 := z4.i (i := 2) rfl
    clear h4 zt z4 CE
    go_quiet (fail)
    go_wp2_with fail
    go_ret2
    exact ⟨_, _, rfl, ⟨(sq_row H4.out.zx HXL.out).kep (kep_drewN (Kep.refl _ _) _), (sq_row H4.out.zy HYL.out).kep (kep_drewN (Kep.refl _ _) _)⟩, kep_drewN H4.out.kep _⟩
end Go.Proofs.Ytbeaoogjcgplnaa
