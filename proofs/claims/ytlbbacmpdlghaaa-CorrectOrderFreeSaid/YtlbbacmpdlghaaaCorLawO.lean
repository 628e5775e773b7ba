/-
  Package correct: the law CorrectOrderFree.
-/
import Derived.Test.YtlbbacmpdlghaaaCorShift
import Derived.Test.YtlbbacmpdlghaaaCtSlice
import Derived.Deep.DeepCutAuto
import Derived.Deep.QuietTactic
import Derived.BigQuiet
namespace Go.Proofs.Ytlbbacmpdlghaaa
open Go.RowKit Go.Lib

theorem info_ctO : (Try.prog.info? 37).map (fun i => (i.zero, i.size, i.bytes)) = some (some (.agg #[.int .u32 0, .int .u32 0, .int .i32 0, .int .i32 0, .int .i32 0]), 5, 20) := by kernel_rfl
theorem sh_ncm (w : World) : (binOp .neq 50 (.agg #[.int .i64 0, .int .i64 0]) (.agg #[.int .i64 0, .int .i64 0])).run Try.prog w = .ok (.bool false) w := by simp [go_sem]
theorem sl_from (b : Option Addr) (n c k : Nat) (h : k ≤ n) (w : World) : (Instr.slice 23 (.slice b n c) (some (.int .i64 (k : Int))) none none).run Try.prog w = .ok (sliced b k n c 5) w := by
  have h0 : (0 : Int) ≤ (k : Int) := Int.natCast_nonneg _
  have h1 : (k : Int) ≤ (n : Int) := by omega
  simp [go_sem, h0, h1, Try.underlying23, sliced]
theorem sl_till (b : Option Addr) (n c k : Nat) (h : k ≤ c) (w : World) : (Instr.slice 23 (.slice b n c) none (some (.int .i64 (k : Int))) none).run Try.prog w = .ok (sliced b 0 k c 5) w := by
  have h0 : (0 : Int) ≤ (k : Int) := Int.natCast_nonneg _
  have h1 : (k : Int) ≤ (c : Int) := by omega
  simp [go_sem, h0, h1, Try.underlying23, sliced]
theorem ad_add (g off m : Nat) : (⟨g, off, none⟩ : Addr).add m = ⟨g, off + m, none⟩ := by unfold Addr.add; split <;> simp_all
theorem sq_from {w : World} {b : Option Addr} {c k : Nat} {C : List Ct} (h : Sq ctv 5 w (.slice b C.length c) C) (hk : k ≤ C.length) (hc : C.length ≤ c) : Sq ctv 5 w (sliced b k C.length c 5) (C.drop k) := by
  obtain ⟨b', c', e, hq⟩ := h
  injection e with e1 _ e2
  subst e1 e2
  refine ⟨_, _, by unfold sliced; rw [List.length_drop], fun i x hx => ?_⟩
  rw [List.getElem?_drop] at hx
  obtain ⟨g, off, rfl, hi⟩ := hq _ x hx
  have : k + i < C.length := (List.getElem?_eq_some_iff.1 hx).1
  refine ⟨g, off + k * 5, ?_, fun j u hu => ?_⟩
  · rw [if_neg (by omega), Option.map_some, ad_add]
  · have := hi j u hu
    rw [show off + (k + i) * 5 + j = off + k * 5 + i * 5 + j by omega] at this
    exact this
theorem sq_till {w : World} {b : Option Addr} {c k : Nat} {C : List Ct} (h : Sq ctv 5 w (.slice b C.length c) C) (hk : k ≤ C.length) : Sq ctv 5 w (sliced b 0 k c 5) (C.take k) := by
  obtain ⟨b', c', e, hq⟩ := h
  injection e with e1 _ e2
  subst e1 e2
  refine ⟨_, _, by unfold sliced; rw [List.length_take, Nat.min_eq_left hk, Nat.sub_zero], fun i x hx => ?_⟩
  have hi0 : i < k := by have := (List.getElem?_eq_some_iff.1 hx).1; rw [List.length_take] at this; omega
  rw [List.getElem?_take_of_lt hi0] at hx
  obtain ⟨g, off, rfl, hi⟩ := hq _ x hx
  refine ⟨g, off, ?_, hi⟩
  split
  · rfl
  · rw [Option.map_some, ad_add, Nat.zero_mul, Nat.add_zero]
theorem sarg_of {A : List Bd} {C D : List Ct} (h : SArg A C) (hl : D.length ≤ C.length) (hm : ∀ c ∈ D, c ∈ C) : SArg A D := ⟨h.vw, Nat.le_trans hl h.few, fun c hc => h.rg c (hm c hc)⟩
theorem shfL_turn (A : List Bd) (C : List Ct) (k : Nat) : shfL A (C.drop k ++ C.take k) = shfL A C := by
  unfold shfL
  congr 1
  funext x
  unfold shfB
  rw [shf_turn, shf_turn]
theorem shfL_len (A : List Bd) (C : List Ct) : (shfL A C).length = A.length := by unfold shfL; rw [List.length_map]
theorem shfL_get {A : List Bd} {C : List Ct} {i : Nat} {x : Bd} (h : A[i]? = some x) : (shfL A C)[i]? = some (shfB A C x) := by unfold shfL; rw [List.getElem?_map, h]; rfl
set_option maxRecDepth 100000 in
set_option maxHeartbeats 2000000 in
theorem cof_bad (AW : Hid SAwake) (t : Int) (L : List Bd) (v : Value) (w : World) (hq : Lst w v L) (C : List Ct) (l : Value) (hc : Sq ctv 5 w l C) (hvw : viwB L = false) : Calls Try.prog 5 #[v, l, .int .u8 t] w fun e w' => e = .returned (.bool true) ∧ Kep w.heap.size w w' := by
  obtain ⟨base, cap, rfl⟩ := hq.shape
  have HQ := Lib.hid hq
  have HC := Lib.hid hc
  clear hq hc
  have VW : Hid (∀ v w, Lst w v L → Calls Try.prog 8 #[v] w fun e w' => ∃ v', e = .returned (.tuple #[v', .bool false]) ∧ Lst w' v' (if L.length ≤ 40 then sortL L else []) ∧ Kep w.heap.size w w') := Lib.hid (fun v w h => (rvw L v w h).mono fun e w' ⟨v', h1, h2, h3⟩ => ⟨v', by rw [h1]; rw [hvw], h2.1, h3⟩)
  clear HC
  go_enter Try.func5, Try.ntmps5
  go_wp2_with (first
    | ((with_reducible refine (VW.out _ _ (HQ.out.kep (Kep.refl _ _))).mono ?_); rintro e w1 ⟨v1, rfl, l1, g1⟩
       have gg := kep_next (Kep.refl _ _) g1)
    | ((with_reducible refine (AW.out _).mono ?_); rintro e w2 ⟨rfl, g2⟩
       replace gg := kep_next gg g2
       replace l1 := l1.kep g2))
  go_ret
  exact ⟨rfl, gg⟩
set_option maxRecDepth 100000 in
set_option maxHeartbeats 2000000 in
theorem cof_not (AW : Hid SAwake) (t : Int) (L : List Bd) (v : Value) (w : World) (hq : Lst w v L) (C : List Ct) (l : Value) (hc : Sq ctv 5 w l C) (HF : Hid (∀ x ∈ L, Fits x)) (hvw : viwB L = true) (hr : rgtS (sortL L) C = false) : Calls Try.prog 5 #[v, l, .int .u8 t] w fun e w' => e = .returned (.bool true) ∧ Kep w.heap.size w w' := by
  obtain ⟨base, cap, rfl⟩ := hq.shape
  have HQ := Lib.hid hq
  have HC := Lib.hid hc
  clear hq hc
  have VW : Hid (∀ v w, Lst w v L → Calls Try.prog 8 #[v] w fun e w' => ∃ v', e = .returned (.tuple #[v', .bool true]) ∧ Lst w' v' (sortL L) ∧ Kep w.heap.size w w') := Lib.hid (fun v w h => (rvw L v w h).mono fun e w' ⟨v', h1, h2, h3⟩ => ⟨v', by rw [h1]; rw [hvw], by have := h2.1; rw [if_pos (vw_of hvw HF.out).1] at this; exact this, h3⟩)
  have HVW := Lib.hid (vw_of hvw HF.out).2.2
  obtain ⟨A, hA⟩ : ∃ A, A = sortL L := ⟨_, rfl⟩
  rw [← hA] at VW HVW hr
  clear hA
  have RR := Lib.hid (show RRs A C false by rw [← hr]; exact rrs A (by have := HVW.out.len; omega) C)
  go_enter Try.func5, Try.ntmps5
  go_wp2_with (first
    | ((with_reducible refine (VW.out _ _ (HQ.out.kep (Kep.refl _ _))).mono ?_); rintro e w1 ⟨v1, rfl, l1, g1⟩
       have gg := kep_next (Kep.refl _ _) g1)
    | ((with_reducible refine (AW.out _).mono ?_); rintro e w2 ⟨rfl, g2⟩
       replace gg := kep_next gg g2
       replace l1 := l1.kep g2)
    | ((with_reducible refine (RR.out _ _ _ l1 (HC.out.kep gg)).mono ?_); rintro e w3 ⟨rfl, g3⟩
       replace gg := kep_next gg g3
       replace l1 := l1.kep g3))
  go_ret
  exact ⟨rfl, gg⟩
set_option maxRecDepth 100000 in
set_option maxHeartbeats 8000000 in
theorem cof_ok (O : SOps) (AW : Hid SAwake) (t : Int) (ht : 0 ≤ t ∧ t < 256) (L : List Bd) (v : Value) (w : World) (hq : Lst w v L) (C : List Ct) (l : Value) (hc : Sq ctv 5 w l C) (HF : Hid (∀ x ∈ L, Fits x)) (hvw : viwB L = true) (hr : rgtS (sortL L) C = true) (hrm : Rmy l) (k : Nat) (hk : k ≤ C.length) (htk : t % ((C.length : Int) + 1) = (k : Int)) : Calls Try.prog 5 #[v, l, .int .u8 t] w fun e w' => e = .returned (.bool true) ∧ Kep w.heap.size w w' := by
  obtain ⟨base, cap, rfl⟩ := hq.shape
  have HQ := Lib.hid hq
  have HC := Lib.hid hc
  clear hq hc
  have VW : Hid (∀ v w, Lst w v L → Calls Try.prog 8 #[v] w fun e w' => ∃ v', e = .returned (.tuple #[v', .bool true]) ∧ Lst w' v' (sortL L) ∧ Kep w.heap.size w w') := Lib.hid (fun v w h => (rvw L v w h).mono fun e w' ⟨v', h1, h2, h3⟩ => ⟨v', by rw [h1]; rw [hvw], by have := h2.1; rw [if_pos (vw_of hvw HF.out).1] at this; exact this, h3⟩)
  have HVW := Lib.hid (vw_of hvw HF.out).2.2
  obtain ⟨A, hA⟩ : ∃ A, A = sortL L := ⟨_, rfl⟩
  rw [← hA] at VW HVW hr
  clear hA
  have RR := Lib.hid (show RRs A C true by rw [← hr]; exact rrs A (by have := HVW.out.len; omega) C)
  have HJ := Lib.hid (sarg HVW.out hr)
  clear hr
  have hal := HVW.out.len
  have hfew := HJ.out.few
  obtain ⟨na, hna⟩ : ∃ n, n = A.length := ⟨_, rfl⟩
  have HNA := Lib.hid hna.symm
  have hal40 : na ≤ 40 := by omega
  have PS := Lib.hid (fun v l w h h2 => (show Calls Try.prog 18 #[v, l] w fun e w' => ∃ b c, e = .returned (.slice b na c) ∧ Sq shv 2 w' (.slice b na c) (shfL A C) ∧ Kep w.heap.size w w' by
    refine (O.shf v A l C w h h2 (HJ.out)).mono ?_
    rintro e w' ⟨v', rfl, ⟨hs, -⟩, hg⟩
    obtain ⟨b, c, e1⟩ := hs.shape
    rw [shfL_len, HNA.out] at e1
    subst e1
    exact ⟨b, c, rfl, by exact hs, hg⟩))
  have PT := Lib.hid (fun v l w h h2 => (show Calls Try.prog 18 #[v, l] w fun e w' => ∃ b c, e = .returned (.slice b na c) ∧ Sq shv 2 w' (.slice b na c) (shfL A C) ∧ Kep w.heap.size w w' by
    refine (O.shf v A l (C.drop k ++ C.take k) w h h2 (sarg_of HJ.out (by rw [List.length_append, List.length_drop, List.length_take]; omega) (fun c hc => (List.mem_append.1 hc).elim List.mem_of_mem_drop List.mem_of_mem_take))).mono ?_
    rintro e w' ⟨v', rfl, ⟨hs, -⟩, hg⟩
    obtain ⟨b, c, e1⟩ := hs.shape
    rw [shfL_len, HNA.out] at e1
    subst e1
    exact ⟨b, c, rfl, by rw [shfL_turn] at hs; exact hs, hg⟩))
  have PF := Lib.hid (fun v l w h h2 => (show Calls Try.prog 18 #[v, l] w fun e w' => ∃ b c, e = .returned (.slice b na c) ∧ Sq shv 2 w' (.slice b na c) (shfL A (C.take k)) ∧ Kep w.heap.size w w' by
    refine (O.shf v A l (C.take k) w h h2 (sarg_of HJ.out (by rw [List.length_take]; omega) (fun c hc => List.mem_of_mem_take hc))).mono ?_
    rintro e w' ⟨v', rfl, ⟨hs, -⟩, hg⟩
    obtain ⟨b, c, e1⟩ := hs.shape
    rw [shfL_len, HNA.out] at e1
    subst e1
    exact ⟨b, c, rfl, by exact hs, hg⟩))
  have PR := Lib.hid (fun v l w h h2 => (show Calls Try.prog 18 #[v, l] w fun e w' => ∃ b c, e = .returned (.slice b na c) ∧ Sq shv 2 w' (.slice b na c) (shfL A (C.drop k)) ∧ Kep w.heap.size w w' by
    refine (O.shf v A l (C.drop k) w h h2 (sarg_of HJ.out (by rw [List.length_drop]; omega) (fun c hc => List.mem_of_mem_drop hc))).mono ?_
    rintro e w' ⟨v', rfl, ⟨hs, -⟩, hg⟩
    obtain ⟨b, c, e1⟩ := hs.shape
    rw [shfL_len, HNA.out] at e1
    subst e1
    exact ⟨b, c, rfl, by exact hs, hg⟩))
  have hl3 : (shfL A C).length ≤ 1000000000 := by rw [shfL_len]; omega
  have hl4 : (shfL A C).length ≤ 100000 := by rw [shfL_len]; omega
  have TS := Lib.hid (fun v w h => lsh (shfL A C) hl4 v w h)
  have RM := Lib.hid (fun va vb w h1 h2 => rsm (shfL A C) hl3 va vb w h1 h2)
  have CUT := Lib.hid (fun x (hx : x ∈ A) => (show ((shfB A (C.take k) x).1 + (shfB A (C.drop k) x).1 = (shfB A C x).1 ∧ (shfB A (C.take k) x).2 + (shfB A (C.drop k) x).2 = (shfB A C x).2) ∧ (-671047600 ≤ (shfB A C x).1 ∧ (shfB A C x).1 ≤ 671047600) ∧ (-671047600 ≤ (shfB A C x).2 ∧ (shfB A C x).2 ≤ 671047600) ∧ (x.m = 0 → shfB A C x = (0, 0)) from ⟨⟨(shf_cut _ A C k x).symm, (shf_cut _ A C k x).symm⟩, shf_bd (f := (·.nx)) (fun x hx => look_mem HVW.out.asc.once hx) HJ.out.vb hx HJ.out.rg (fun c hc => (HJ.out.rg c hc).nx) hfew, shf_bd (f := (·.ny)) (fun x hx => look_mem HVW.out.asc.once hx) HJ.out.vb hx HJ.out.rg (fun c hc => (HJ.out.rg c hc).ny) hfew, fun h => by unfold shfB; rw [shf_static h, shf_static h]⟩))
  obtain ⟨bc, cc, rfl⟩ := HC.out.shape
  have hcc := hrm _ _ _ rfl
  have QF := Lib.hid (fun w h => sq_from (w := w) (b := bc) (k := k) h hk hcc)
  have QT := Lib.hid (fun w h => sq_till (w := w) (b := bc) (c := cc) (k := k) h hk)
  obtain ⟨vf, hvf⟩ : ∃ v, v = sliced bc k C.length cc 5 := ⟨_, rfl⟩
  obtain ⟨vt, hvt⟩ : ∃ v, v = sliced bc 0 k cc 5 := ⟨_, rfl⟩
  have rf : ∀ w, (Instr.slice 23 (.slice bc C.length cc) (some (.int .i64 (k : Int))) none none).run Try.prog w = .ok vf w := fun w => by rw [hvf]; exact sl_from bc C.length cc k hk w
  have rt : ∀ w, (Instr.slice 23 (.slice bc C.length cc) none (some (.int .i64 (k : Int))) none).run Try.prog w = .ok vt w := fun w => by rw [hvt]; exact sl_till bc C.length cc k (Nat.le_trans hk hcc) w
  rw [← hvf] at QF
  rw [← hvt] at QT
  have HLD := Lib.hid (show (C.drop k).length + (C.take k).length ≤ 100 by rw [List.length_drop, List.length_take]; omega)
  clear hvf hvt hl3 hl4 hrm hcc
  generalize hnc : C.length = nc at *
  have HN := Lib.hid hnc
  clear hnc hna
  obtain ⟨s, hs⟩ : ∃ s : Nat, s = nc + 1 := ⟨_, rfl⟩
  have t1 : IntKind.i64.wrap t = t := by rw [IntKind.wrap_i64]; omega
  have t2 : wrap64 t = t := by unfold wrap64; omega
  have s1 : IntKind.i64.wrap ((nc : Int) + 1) = (s : Int) := by rw [IntKind.wrap_i64]; omega
  have s2 : wrap64 ((nc : Int) + 1) = (s : Int) := by unfold wrap64; omega
  have s0 : ¬ s = 0 := by rw [hs]; exact Nat.succ_ne_zero nc
  have t3 : ((s : Int) == 0) = false := beq_eq_false_iff_ne.2 fun e => s0 (Int.natCast_eq_zero.1 e)
  have t4 : Int.tmod t (s : Int) = (k : Int) := by rw [Int.tmod_eq_emod_of_nonneg ht.1, hs]; exact htk
  clear hs hk htk ht hfew hal
  go_enter Try.func5, Try.ntmps5
  go_upto_region 6 with (first
    | ((with_reducible refine (VW.out _ _ (HQ.out.kep (Kep.refl _ _))).mono ?_); rintro e w1 ⟨v1, rfl, l1, g1⟩
       have gg := kep_next (Kep.refl _ _) g1)
    | ((with_reducible refine (AW.out _).mono ?_); rintro e w2 ⟨rfl, g2⟩
       replace gg := kep_next gg g2
       replace l1 := l1.kep g2)
    | ((with_reducible refine (RR.out _ _ _ l1 (HC.out.kep gg)).mono ?_); rintro e w3 ⟨rfl, g3⟩
       replace gg := kep_next gg g3
       replace l1 := l1.kep g3)
    | ((with_reducible refine (PS.out _ _ _ l1 (HC.out.kep gg)).mono ?_); rintro e w5 ⟨b5, c5, rfl, s5, g5⟩; replace l1 := l1.kep g5; replace gg := kep_next gg g5))
  obtain ⟨bl, cl, rfl⟩ := l1.shape
  rw [HNA.out] at l1 ⊢
  have HL := Lib.hid l1
  have HS := Lib.hid s5
  have G5 := Lib.hid gg
  clear gg l1 s5 t1 t2 s1 s2 t3 t4 s0
  refine wp_region_noPanic ?_
  refine wp_region_held_drew (S := (fun w' => Kep w5.heap.size w5 w')) (by kernel_rfl) (kep_drew (Kep.refl _ _)) (fun hH => ?_)
  have HY := Lib.hid hH
  generalize w5.drew = Y0 at *
  refine rtk 0 (oi := ⟨some 42, .move (.tmp 7), _, _, _, none⟩) (v := ?_) rfl ?_ hH ?_
  rotate_left
  · (intro w hSw; (try dsimp only at hSw); go_simp; (try with_reducible rfl))
  refine rtk 2 (oi := ⟨some 44, .move (.tmp 1), _, _, _, none⟩) (v := ?_) rfl ?_ hH ?_
  rotate_left
  · (intro w hSw; (try dsimp only at hSw); go_simp; (try with_reducible rfl))
  refine rtk 3 (oi := ⟨some 45, .move (.tmp 9), _, _, _, none⟩) (v := ?_) rfl ?_ hH ?_
  rotate_left
  · (intro w hSw; (try dsimp only at hSw); go_simp; (try with_reducible rfl))
  try simp only [Act.put, List.setIfInBounds_toArray, List.set_cons_zero, List.set_cons_succ]
  refine rtk 4 (oi := ⟨some 46, .slice 23 (.tmp 44) (some (.tmp 45)) none none, _, _, _, none⟩) (v := ?_) rfl ?_ hH ?_
  rotate_left
  · (intro w hSw; (try dsimp only at hSw); go_simp; (try with_reducible rfl))
  refine rtk 6 (oi := ⟨some 48, .move (.tmp 1), _, _, _, none⟩) (v := ?_) rfl ?_ hH ?_
  rotate_left
  · (intro w hSw; (try dsimp only at hSw); go_simp; (try with_reducible rfl))
  refine rtk 7 (oi := ⟨some 49, .move (.tmp 9), _, _, _, none⟩) (v := ?_) rfl ?_ hH ?_
  rotate_left
  · (intro w hSw; (try dsimp only at hSw); go_simp; (try with_reducible rfl))
  refine rtk 8 (oi := ⟨some 50, .slice 23 (.tmp 48) none (some (.tmp 49)) none, _, _, _, none⟩) (v := ?_) rfl ?_ hH ?_
  rotate_left
  · (intro w hSw; (try dsimp only at hSw); go_simp; (try with_reducible rfl))
  try simp only [Act.put, List.setIfInBounds_toArray, List.set_cons_zero, List.set_cons_succ]
  refine wpAnyH_ready (rs := [1]) (by kernel_rfl) (by simp) ?_
  refine AllReadyH.cons (o := ⟨some 43, .buildSlice 23 0 #[], _, _, _, none⟩) rfl (fun K hK => ?_) AllReadyH.nil
  go_simp
  refine hK.out _ _ (by (try dsimp only); exact kep_more hH _) (fun hH2 => ?_)
  clear hK K hH; have hH := hH2; clear hH2
  try simp only [Act.put, List.setIfInBounds_toArray, List.set_cons_zero, List.set_cons_succ]
  refine wpAnyH_ready (rs := [5]) (by kernel_rfl) (by simp) ?_
  refine AllReadyH.cons (o := ⟨some 47, .call { callee := .builtin Builtin.append, args := #[.tmp 43, .tmp 46], argTypes := #[23, 23] }, _, _, _, none⟩) rfl (fun K hK => ?_) AllReadyH.nil
  refine step_appAll ctv 5 ctv_len ctv_one (by rfl) _ _ 23 (by rfl) 37 _ 20 Try.underlying23 info_ctO rfl (by decide) Y0.heap.size _ _ _ ([] : List Ct) (C.drop k) (by rfl) (World.ownsRow_made Y0 #[] 0 (Nat.le_refl _) (Nat.zero_le _) (by simp)) (by first | rfl | simp) (QF.out _ ((HC.out.kep G5.out).kep hH)) (by have := HLD.out; simp only [List.length_nil, Nat.zero_add]; unfold maxLen; omega) (by have := HLD.out; simp only [List.length_nil, Nat.zero_add]; omega) (by simp) ?_
  intro v6 w6 o6 k6
  replace k6 : Kep Y0.heap.size Y0 w6 := (kep_more (Kep.refl _ _) _).trans k6
  refine hK.out _ _ (by (try dsimp only); exact kep_next HY.out k6) (fun hH2 => ?_)
  clear hK K hH; have hH := hH2; clear hH2
  try simp only [Act.put, List.setIfInBounds_toArray, List.set_cons_zero, List.set_cons_succ]
  refine wpAnyH_ready (rs := [9]) (by kernel_rfl) (by simp) ?_
  refine AllReadyH.cons (o := ⟨some 51, .call { callee := .builtin Builtin.append, args := #[.tmp 47, .tmp 50], argTypes := #[23, 23] }, _, _, _, none⟩) rfl (fun K hK => ?_) AllReadyH.nil
  refine step_appAll ctv 5 ctv_len ctv_one (by rfl) _ _ 23 (by rfl) 37 _ 20 Try.underlying23 info_ctO rfl (by decide) Y0.heap.size _ _ _ ([] ++ C.drop k) (C.take k) (by rfl) o6 (by first | rfl | simp) (QT.out _ ((HC.out.kep G5.out).kep hH)) (by have := HLD.out; simp only [List.nil_append]; unfold maxLen; omega) (by have := HLD.out; simp only [List.nil_append]; omega) (k6.size) ?_
  intro v7 w7 o7 k7
  refine hK.out _ _ (by (try dsimp only); exact kep_next HY.out (k6.trans k7)) (fun hH2 => ?_)
  clear hK K hH; have hH := hH2; clear hH2
  try simp only [Act.put, List.setIfInBounds_toArray, List.set_cons_zero, List.set_cons_succ]
  refine wpAnyH_ready (rs := [10]) (by kernel_rfl) (by simp) ?_
  refine AllReadyH.cons (o := ⟨some 52, .call { callee := .value (.func 18), args := #[.tmp 42, .tmp 51], argTypes := #[22, 23] }, _, _, _, none⟩) rfl (fun K hK => ?_) AllReadyH.nil
  have q7 : Sq ctv 5 w7 v7 (C.drop k ++ C.take k) := own_sq ctv_len o7
  go_simp
  (with_reducible refine (PT.out _ _ _ (HL.out.kep hH) q7).mono ?_); rintro e w8 ⟨b8, c8, rfl, s8, g8⟩
  refine hK.out _ _ (by (try dsimp only); exact kep_next hH g8) (fun hH2 => ?_)
  have HT := Lib.hid s8
  clear s8 g8 q7
  clear hK K hH; have hH := hH2; clear hH2
  refine rtk 11 (oi := ⟨some 11, .assign (.tmp 52), _, _, _, none⟩) (v := ?_) rfl ?_ hH ?_
  rotate_left
  · (intro w hSw; (try dsimp only at hSw); go_simp; (try with_reducible rfl))
  try simp only [Act.put, List.setIfInBounds_toArray, List.set_cons_zero, List.set_cons_succ]
  refine wpAnyH_done (by kernel_rfl) ?_ _
  refine NoPanic.normal ?_
  have l1 := HL.out.kep hH
  have s5 := HS.out.kep hH
  have s8 := HT.out
  have gg := kep_next G5.out hH
  clear HT HL HS hH HY o6 o7 k6 k7
  go_wp2_with (first
    | ((with_reducible refine (PF.out _ _ _ l1 (QT.out _ (HC.out.kep gg))).mono ?_); rintro e w9 ⟨b9, c9, rfl, s9, g9⟩; replace gg := kep_next gg g9; replace l1 := l1.kep g9; replace s5 := s5.kep g9; replace s8 := s8.kep g9)
    | ((with_reducible refine (PR.out _ _ _ l1 (QF.out _ (HC.out.kep gg))).mono ?_); rintro e w10 ⟨b10, c10, rfl, s10, g10⟩; replace gg := kep_next gg g10; replace l1 := l1.kep g10; replace s5 := s5.kep g10; replace s8 := s8.kep g10; replace s9 := s9.kep g10)
    | ((with_reducible refine (TS.out _ _ s5).mono ?_); rintro e w11 ⟨v11, rfl, s11, g11⟩; replace gg := kep_next gg g11; replace l1 := l1.kep g11; replace s5 := s5.kep g11; replace s8 := s8.kep g11; replace s9 := s9.kep g11; replace s10 := s10.kep g11)
    | ((with_reducible refine (TS.out _ _ s8).mono ?_); rintro e w12 ⟨v12, rfl, s12, g12⟩; replace gg := kep_next gg g12; replace l1 := l1.kep g12; replace s5 := s5.kep g12; replace s9 := s9.kep g12; replace s10 := s10.kep g12; replace s11 := s11.kep g12)
    | ((with_reducible refine (RM.out _ _ _ s11 s12).mono ?_); rintro e w13 ⟨rfl, g13⟩; replace gg := kep_next gg g13; replace l1 := l1.kep g13; replace s5 := s5.kep g13; replace s9 := s9.kep g13; replace s10 := s10.kep g13))
  have HL := Lib.hid l1
  have H5 := Lib.hid s5
  have H9 := Lib.hid s9
  have H10 := Lib.hid s10
  have G0 := Lib.hid gg
  have HLA := Lib.hid (fun (k : Nat) (y : Bd) (hy : A[k]? = some y) => HL.out.at_ hy)
  clear l1 s5 s8 s9 s10 s11 s12 gg
  go_loopw [14] (fun i wr => ∃ k : Nat, k ≤ na ∧ i = .int .i64 k ∧ ∃ j, wr = w13.drewN j) (fun i _ => na - (RowKit.intOf i).toNat)
  case atStart => exact ⟨0, by omega, rfl, 0, rfl⟩
  case round =>
    obtain ⟨i, hi, rfl, j, rfl⟩ := hrel
    by_cases hlt : i < na
    · have hb : A[i]? = some (A[i]'(by rw [HNA.out]; exact hlt)) := List.getElem?_eq_getElem _
      generalize A[i]'(by rw [HNA.out]; exact hlt) = x at hb
      have CX := CUT.out x (List.mem_of_getElem? hb)
      obtain ⟨gl, off, rfl, qx⟩ := HLA.out i x hb
      have m4 : w13.cell? ⟨gl, off + i * 10 + 4, none⟩ = some (.int .i32 x.m) := qx 4 (by decide)
      obtain ⟨_, _, ea, qa⟩ := H5.out
      obtain ⟨ga, oa, rfl, za⟩ := qa i _ (shfL_get hb)
      injection ea with ea en ec
      clear en
      subst ea ec
      have a0 : w13.cell? ⟨ga, oa + i * 2, none⟩ = some (.int .i64 (shfB A C x).1) := za 0 _ rfl
      have a1 : w13.cell? ⟨ga, oa + i * 2 + 1, none⟩ = some (.int .i64 (shfB A C x).2) := za 1 _ rfl
      clear qa za
      obtain ⟨_, _, eb, qb⟩ := H9.out
      obtain ⟨gb, ob, rfl, zb⟩ := qb i _ (shfL_get hb)
      injection eb with eb en ec
      clear en
      subst eb ec
      have b0 : w13.cell? ⟨gb, ob + i * 2, none⟩ = some (.int .i64 (shfB A (C.take k) x).1) := zb 0 _ rfl
      have b1 : w13.cell? ⟨gb, ob + i * 2 + 1, none⟩ = some (.int .i64 (shfB A (C.take k) x).2) := zb 1 _ rfl
      clear qb zb
      obtain ⟨_, _, ed, qd⟩ := H10.out
      obtain ⟨gd, od, rfl, zd⟩ := qd i _ (shfL_get hb)
      injection ed with ed en ec
      clear en
      subst ed ec
      have d0 : w13.cell? ⟨gd, od + i * 2, none⟩ = some (.int .i64 (shfB A (C.drop k) x).1) := zd 0 _ rfl
      have d1 : w13.cell? ⟨gd, od + i * 2 + 1, none⟩ = some (.int .i64 (shfB A (C.drop k) x).2) := zd 1 _ rfl
      clear qd zd
      generalize shfB A C x = p at *
      generalize shfB A (C.take k) x = f at *
      generalize shfB A (C.drop k) x = r at *
      obtain ⟨p1, p2⟩ := p
      obtain ⟨f1, f2⟩ := f
      obtain ⟨r1, r2⟩ := r
      obtain ⟨⟨q1, q2⟩, q3, q4, q5⟩ := CX
      dsimp only at q1 q2 q3 q4
      have e1 : IntKind.i64.wrap (f1 + r1) = p1 := by rw [IntKind.wrap_i64]; omega
      have e2 : wrap64 (f1 + r1) = p1 := by unfold wrap64; omega
      have e3 : IntKind.i64.wrap (f2 + r2) = p2 := by rw [IntKind.wrap_i64]; omega
      have e4 : wrap64 (f2 + r2) = p2 := by unfold wrap64; omega
      have n1 : (p1 != p1) = false := by simp
      have n2 : (p2 != p2) = false := by simp
      clear hb qx q1 q2 q3 q4
      by_cases hm : x.m = 0
      · have m0 : (x.m == 0) = true := beq_iff_eq.2 hm
        obtain ⟨rfl, rfl⟩ : p1 = 0 ∧ p2 = 0 := by have := q5 hm; injection this with a b; exact ⟨a, b⟩
        have nn := sh_ncm
        clear hm q5
        go_wp2_with fail
        go_quiet (fail)
        go_wp2_with fail
        go_roundw
        case rel => exact ⟨i + 1, by omega, by go_num, _, rfl⟩
        case measure => simp [RowKit.intOf]; omega
      · have m0 : (x.m == 0) = false := beq_eq_false_iff_ne.2 hm
        clear hm q5
        go_wp2_with fail
        go_quiet (fail)
        go_wp2_with fail
        go_roundw
        case rel => exact ⟨i + 1, by omega, by go_num, _, rfl⟩
        case measure => simp [RowKit.intOf]; omega
    · obtain rfl : i = na := by omega
      go_wp2_with fail
      go_ret
      exact ⟨rfl, kep_drewN G0.out _⟩
/-- The law CorrectOrderFree. -/
theorem cof_law (O : SOps) (AW : SAwake) (t : Int) (ht : 0 ≤ t ∧ t < 256) (L : List Bd) (v : Value) (w : World) (hq : Lst w v L) (C : List Ct) (l : Value) (hc : Sq ctv 5 w l C) (hrm : Rmy l) (HF : ∀ x ∈ L, Fits x) : Calls Try.prog 5 #[v, l, .int .u8 t] w fun e w' => e = .returned (.bool true) ∧ Kep w.heap.size w w' := by
  cases hvw : viwB L
  · exact cof_bad (Lib.hid AW) t L v w hq C l hc hvw
  · cases hr : rgtS (sortL L) C
    · exact cof_not (Lib.hid AW) t L v w hq C l hc (Lib.hid HF) hvw hr
    · have h1 := Int.emod_nonneg t (show (C.length : Int) + 1 ≠ 0 by omega)
      have h2 := Int.emod_lt_of_pos t (show (0 : Int) < (C.length : Int) + 1 by omega)
      exact cof_ok O (Lib.hid AW) t ht L v w hq C l hc (Lib.hid HF) hvw hr hrm (t % ((C.length : Int) + 1)).toNat (by omega) (by omega)
end Go.Proofs.Ytlbbacmpdlghaaa
